import PyProof.Rows.All
import Wide.All
import OpenK.AllK
import Wide.FinOn
import PySem.Challenge.RW_turnways_k08_belts
import HandS.ForMost
import HandS.IsInst
import HandS.Exc
import HandS.ExcInit
import HandS.ExcIs
import HandS.ExcValue
import HandS.Lambda
import HandS.EndTab
import HandS.Defaults
import HandS.MakeKw
import HandS.ExcField
import HandS.TryOnly
import HandS.TryMany
import HandS.WordsExc
import HandS.Walk
import HandS.Zip
import KE.KStateDown
import HandS.Head0
import HandS.Head1
import HandS.Head2
import HandS.HeadEnd
import HandS.HeadHook1
import HandS.HeadHook2
import HandS.HeadHook3
import HandS.HeadHook4
import HandS.HeadWalk
import HandS.Dict
import HandS.Star
import HandS.CallLocal
import HandS.DictComp
import HandS.Flow
import HandS.Nested
import HandS.More
import HandS.SetKeys
import HandS.Text
import HandS.Conv
import HandS.Style
import HandS.TupMul
import HandS.MakeKwOnly
set_option Elab.async false
set_option linter.all false
set_option maxRecDepth 100000
set_option maxHeartbeats 0
/-! k08: belts, in every order. Rules of one's own (errors, closures, dicts, calls over a larger base); the program's defs, one theorem each; a mirror of a run; plans and their states; the law itself; the head by one kernel run with its facts; the end. -/
/-! Own errors as values: made by place and by name, asked by isinstance, their field read. -/
namespace PySem.W
open PySem PySem.Spec PySem.Calls PyProof.Rows
section
variable {prog : Program} {w : World} {A : Around} {E : Value → Shared → Prop} {s : Shared} {K : Frag} {x D : Addr} {ox : Obj} {od : Option Obj}
theorem ve_findData {C : Addr} {name : Str} {a g : Value} (hc : (clsIn K C).isSome = true) (ha : findIn K (.ref C) name = some (some a)) (hg : specialIn K a "__get__" = some (some g)) (ht : takesIn K a = some true) : findObj K C od name = some (.bind g a) := by
  obtain ⟨cd, hc⟩ := Option.isSome_iff_exists.mp hc
  unfold findObj
  rw [hc, Option.bind_some, ha, Option.bind_some]
  simp [hg, ht]
/-- what isinstance leans on, of the class at D of an error -/
structure AsksOf (K : Frag) (D : Addr) : Prop where
  by_ : findIn K (.ref D) "__getattribute__" = some (some (.builtin "BaseException.__getattribute__"))
  else_ : findIn K (.ref D) "__getattr__" = some none
  isE : subIn K (.ref D) (.type "BaseException") = some true
  dct : hasDictIn K D = true
  clsA : findIn K (.ref D) "__class__" = some (some (.builtin "object.__class__"))
  got : specialIn K (.builtin "object.__class__") "__get__" = some (some (.builtin "getset_descriptor.__get__"))
  took : takesIn K (.builtin "object.__class__") = some true
  obj : mroIn K D (.type "object") = some true
/-- e.__class__ of an error e, whether or not it has a dict of its own -/
theorem ve_class {Q : Option Value → Shared → Prop} (Z : AsksOf K D) (X : K.In s.heap) (I : InstAt s.heap x ox D od) (done : Q (some (.ref D)) { s with toks := s.toks + 1 }) :
    wpAny (model prog w) A (getAttr? (.ref x) "__class__") Q E s := by
  have known : (clsIn K D).isSome = true := by
    obtain ⟨cd, e, _⟩ := any_some Z.dct
    rw [e]
    rfl
  have found : findObj K D od "__class__" = some (.bind (.builtin "getset_descriptor.__get__") (.builtin "object.__class__")) :=
    ve_findData known Z.clsA Z.got Z.took
  have other : (Value.builtin "BaseException.__getattribute__" == Value.builtin "object.__getattribute__") = false := by
    decide +kernel
  have noHeap : (onTheHeap (Value.ref D) && Value.builtin "BaseException.__getattribute__" == Value.builtin "object.__getattribute__") = false := by
    rw [other]
    rfl
  have noExpr : (false && onTheHeap (Value.builtin "BaseException.__getattribute__")) = false := rfl
  obtain ⟨hp, g, d, t, os⟩ := s
  have ofType := I.type (M := model prog w)
  have ofBy := looks_findIn (M := model prog w) X Z.by_
  have ofElse := looks_findIn (M := model prog w) X Z.else_
  have ofCls := looks_find (M := model prog w) X I found
  have isErr : Looks (model prog w) hp (isInstance (.ref x) (.type "BaseException")) true :=
    ofType.andThen (looks_subIn X Z.isE)
  unfold getAttr? getAttrBy? getAttrBy
  refine wpAny_bind (wpAny_mkText (wpAny_bind ?_))
  refine wpAny_attempt (wpAny_holding (wpAny_bind ?_))
  refine ofType.at (wpAny_bind (ofBy.at ?_))
  show wpAny _ _ (if (onTheHeap (Value.ref D) && Value.builtin "BaseException.__getattribute__" == Value.builtin "object.__getattribute__") = true then _ else _) _ _ _
  rw [noHeap, if_neg Bool.false_ne_true]
  unfold getAttrByItsOwn hookBefore
  refine wpAny_bind ?_
  rw [if_pos (show onTheHeap (Value.ref D) = true from rfl)]
  refine ofElse.at (wpAny_bind ?_)
  refine wpAny_attempt (wpAny_holding ?_)
  unfold callGetattribute
  rw [noExpr, if_neg Bool.false_ne_true]
  unfold boundAndCalled
  rw [PySem.F.excAttr_ValueError.ga.bind (.ref x)]
  refine wpAny_bind (wpAny_pure ?_)
  show wpAny _ _ (call (.builtin "BaseException.__getattribute__") [.ref x, .str "__class__" t]) _ _ _
  refine wpAny_call (codeAny_call_builtin PySem.F.excAttr_ValueError.ga.plain PySem.F.entry_bexc_ga ?_)
  refine @check_slot (model prog w) _ _ ⟨hp, g, d, t + 1, os⟩ "BaseException.__getattribute__" "BaseException" "__getattribute__" (.ref x) [.str "__class__" t] []
    _ (by decide +kernel) (by decide +kernel) isErr (PySem.F.args_bexc_ga (.ref x) (.str "__class__" t)) ?_
  unfold Builtin.«object.__getattribute__»
  refine wpAny_bind ?_
  refine wpAny_of_eq (a := ((Value.ref x : Value), [Value.str "__class__" t])) (by first | rfl | (simp only [slotArgs]; rfl)) ?_
  refine wpAny_bind (wpAny_pure (wpAny_bind (ofType.at (wpAny_bind ?_))))
  refine ofCls.at ?_
  show wpAny _ _ (holding [Value.builtin "object.__class__"] (call (.builtin "getset_descriptor.__get__") [.builtin "object.__class__", .ref x, .ref D]) >>= ret) _ _ _
  refine wpAny_bind (wpAny_holding (wpAny_call ?_))
  refine class_get (s := ⟨hp, g, d, t + 1, os⟩) (ox := ox) (od := od) X I Z.obj (wpAny_pure ?_)
  show wpAny _ _ (handedOut (.ref D)) _ _ _
  rw [handedOut_of (v := .ref D) rfl]
  first
    | exact wpAny_pure (wpAny_pure done)
    | exact wpAny_pure done
    | exact wpAny_pure (wpAny_bind (wpAny_pure (wpAny_pure done)))
theorem cls_there {D : Addr} (Z : AsksOf K D) : ∃ o c, K.lookup D = some o ∧ o.data = .cls c := by
  obtain ⟨c, e, _⟩ := any_some Z.dct
  unfold clsIn at e
  split at e
  · rename_i q
    exact ⟨_, _, q, rfl⟩
  · cases e
theorem ve_kitx (Z : AsksOf K D) : KitX K (.ref x) (.ref D) (fun h => InstAt h x ox D od) := by
  obtain ⟨o, c, q, hd⟩ := cls_there Z
  refine ⟨fun _ _ _ I => I.type, fun _ _ X _ => ?_, fun h tp dd its n sl X tup => ?_, fun X I k => ve_class Z X I k⟩
  · intro A' Q' E' s' kept done
    unfold isType loadHead
    refine wpAny_bind (wpAny_loadPart (kept _ _ (X _ _ q)) ?_)
    obtain ⟨oc, od', dt, sl⟩ := o
    subst hd
    exact wpAny_pure done
  · refine Bool.eq_false_iff.mpr fun z => ?_
    have e : D = tp := Value.ref.inj (beq_iff_eq.mp z)
    rw [← e, X _ _ q] at tup
    have y := Option.some.inj tup
    rw [y] at hd
    cases hd
end
end PySem.W

namespace L2
open PySem PySem.Spec PyProof.Rows
/-- an error of the class at C stands at a: with a dict of its fields, or without any -/
def ErrAt (H : Hp) (a C : Addr) : Prop := (∃ d fs, H a = some (exo a C (some d)) ∧ H d = some (exd d fs)) ∨ H a = some (ExO (.ref C) a)
theorem ErrAt.same {H H' : Hp} {a C : Addr} (e : Same H H') (h : ErrAt H a C) : ErrAt H' a C := by
  rcases h with ⟨d, fs, h1, h2⟩ | h
  · exact .inl ⟨d, fs, e _ _ h1, e _ _ h2⟩
  · exact .inr (e _ _ h)
theorem ErrAt.inst {P : Program} {w : World} {H : Hp} {h : Heap} {a C : Addr} (hok : HOk P w H h) (e : ErrAt H a C) : ∃ (ox : Obj) (od : Option Obj), PySem.W.InstAt h a ox C od := by
  rcases e with ⟨d, fs, h1, h2⟩ | h1
  · obtain ⟨t1, ho⟩ := exo_at hok h1
    obtain ⟨mA, hns, _⟩ := exd_at hok h2
    obtain ⟨od, hod, _⟩ := lookIn_ns hns
    exact ⟨_, some od, ho, rfl, rfl, hod⟩
  · obtain ⟨⟨oe, vs, ho, hz, hd, _⟩, _, _⟩ := hok a _ h1
    obtain ⟨oc, odd, dt, sl⟩ := oe
    obtain ⟨z1, z2⟩ := hz
    dsimp only at z1 z2 hd
    subst z1 z2 hd
    exact ⟨_, none, ho, rfl, rfl, trivial⟩
/-- isinstance(e, c), e such an error -/
def rIsV (K : PySem.W.Frag) : List V → Hp → VK → Prop := fun xs H Q => ∃ (a D : Addr) (c : V) (cv : Value) (b : Bool), xs = [.ref a, c] ∧ ErrAt H a D ∧ ExcC K D ∧ ClsV c cv ∧ PySem.W.kitOne K (.ref D) cv = some b ∧ Q (.bl b) H
theorem call_isV {X : Cx} : CallR X (.builtin "isinstance") (rIsV X.K) := by
  intro pins s σ H xs us Q I r h
  obtain ⟨a, D, c, cv, b, rfl, hE, C, k, e, q⟩ := h
  obtain ⟨u1, u2, rfl, r1, r2⟩ := vals2 r
  have e2 := k.eq r2
  subst e2
  cases (show u1 = Value.ref a from r1)
  obtain ⟨ox, od, J⟩ := hE.inst I.hok
  exact PySem.W.kia_one (PySem.W.ve_kitx ⟨C.hg, C.hk, C.hs, C.hd, C.ha, C.hn, C.ht, C.hm⟩) I.kIn J e (fun z => nomatch z) fun tk => ⟨.bl b, H, I.tok tk, rfl, q⟩
end L2
namespace PySem
namespace ErrV
open PySem.Spec PySem.Calls PyProof.Rows PySem.HandSPX
section
variable {prog : Program} {w : World} {A : Around} {E : Value → Shared → Prop} {R : Result → Shared → Prop} {h : Heap} {g : Array GenState} {d : Drawn} {t : Nat} {os : OsState}
variable {nm q : Str} {C N : Addr} {bs bm bmB : List Value} {hdct : Bool} {sn : List Str} {sub : List Value} {ab : Bool} {col : Option Bool} {dd : Option Addr} {k0 k1 k2 k3 k5 : Option Value} {B newId initId : String}
variable {rest : List Value} {kw : List (Str × Value)} {fI : Addr}

/-- __new__ asks nothing of the keywords -/
theorem asks_new (F : ExcBaseFacts B newId initId bmB) (hT : ∀ X : String, bm.contains (.type X) = bmB.contains (.type X)) {Q : Unit → Shared → Prop} {M : Model}
    (hC : h.get? C = some (excClassObj nm q C N bs bm hdct sn sub ab col dd k0 k1 k2 k3 k5 newId)) (hq : Q () ⟨h, g, d, t, os⟩) :
    wpAny M A (checkBuiltinCall newId ⟨.ref C :: rest, kw⟩) Q E ⟨h, g, d, t, os⟩ := by
  have inB : (Value.ref C :: bm).contains (.type B) = true := by
    rw [List.contains_cons, hT, F.hasB, Bool.or_true]
  have one := F.noStar
  simp only [checkBuiltinCall, F.newKind, F.newSplit, F.newRow]
  repeat (first
    | refine wpAny_loadPart_at hC ?_
    | (refine wpAny_isSubtype_exc hC ?_; rw [inB])
    | refine wpAny_staticBase_exc hC ?_
    | refine wpAny_madeBy_exc hC ?_
    | simp only [bne_self_eq_false, Bool.false_eq_true, if_false]
    | wp_step)
  exact hq
/-- __new__ keeps the arguments by place alone -/
theorem does_new (F : ExcBaseFacts B newId initId bmB) (hT : ∀ X : String, bm.contains (.type X) = bmB.contains (.type X))
    (hC : h.get? C = some (excClassObj nm q C N bs bm hdct sn sub ab col dd k0 k1 k2 k3 k5 newId)) (few : rest.length ≤ sizeLine)
    (hq : R (.ok (.ret (.ref (h.objs.size + 1)))) ⟨(h.push (W.kdv_tup rest)).push (excO C h.objs.size), g, d, t, os⟩) :
    codeAny (model prog w) A (.builtin newId ⟨.ref C :: rest, kw⟩) R ⟨h, g, d, t, os⟩ := by
  have ends := F.ends
  have inB : (Value.ref C :: bm).contains (.type B) = true := by
    rw [List.contains_cons, hT, F.hasB, Bool.or_true]
  have noA : (Value.ref C :: bm).contains (.type "AttributeError") = false := by
    rw [List.contains_cons, hT, F.noAttr]
    rfl
  have noN : (Value.ref C :: bm).contains (.type "NameError") = false := by
    rw [List.contains_cons, hT, F.noName]
    rfl
  refine codeAny_builtinAt F.entry ?_
  unfold Builtin.«BaseException.__new__»
  refine wpAt_bind ?_
  show wpAt _ _ _ (stack >>= _) _ _ _
  refine wpAt_bind (wpAt_stack fun p below => wpAt_of_wpAny ?_)
  wp_walk
  refine wpAt_of_wpAny ?_
  rw [F.owner]
  repeat (first
    | with_reducible refine wpAny_madeHere_exc F.canon hC ?_
    | with_reducible refine wpAny_loadPart_at hC ?_
    | (with_reducible refine wpAny_isSubtype_exc hC ?_
       first | rw [inB] | rw [noA] | rw [noN])
    | wp_step)
  show R _ _
  rw [Heap.size_push]
  exact hq
/-- the class is called: __new__, then its own __init__, both with all that was passed -/
theorem class_call (F : ExcBaseFacts B newId initId bmB) (hT : ∀ X : String, bm.contains (.type X) = bmB.contains (.type X)) {Q : Fin → Shared → Prop}
    (hC : h.get? C = some (excClassObj nm q C N bs bm hdct sn sub ab col dd k0 k1 k2 k3 k5 newId))
    (hi : W.Looks (model prog w) h (typeLookup (.ref C) "__init__") (some (.ref fI))) (hb : ∀ self, W.Looks (model prog w) h (bindSpecial (.ref fI) self) (.ref fI, [self])) (few : rest.length ≤ sizeLine)
    (hq : codeAny (model prog w) A (.call (.ref fI) ⟨.ref (h.objs.size + 1) :: rest, kw⟩)
      (fun r s' => match r with | .ok (.ret v) => v = .none ∧ Q (.done (.ret (.ref (h.objs.size + 1)))) s' | .ok _ => False | .error e => E e s')
      ⟨(h.push (W.kdv_tup rest)).push (excO C h.objs.size), g, d, t, os⟩) :
    wpAny (model prog w) A (Builtin.«type.__call__» ⟨.ref C :: rest, kw⟩) Q E ⟨h, g, d, t, os⟩ := by
  repeat (first
    | with_reducible refine wpAny_loadPart_at hC ?_
    | with_reducible refine wpAny_madeBy_exc hC ?_
    | wp_step)
  refine codeAny_call_builtin_code (Code.quiet_builtin _ F.quiet) (asks_new F hT hC ?_)
  refine does_new F hT hC few ?_
  show wpAny _ _ _ _ _ _
  have kept : ∀ b o, h.get? b = some o → ((h.push (W.kdv_tup rest)).push (excO C h.objs.size)).get? b = some o := fun b o e =>
    Heap.get?_push_of_some _ (Heap.get?_push_of_some _ e)
  have cls' := kept _ _ hC
  have here : ((h.push (W.kdv_tup rest)).push (excO C h.objs.size)).get? (h.objs.size + 1) = some (excO C h.objs.size) := by
    heap_get
  have inC : (Value.ref C :: bm).contains (.ref C) = true := by
    simp
  have look := hi.keeps kept
  have bind := (hb (.ref (h.objs.size + 1))).keeps kept
  unfold isInstance
  repeat (first
    | with_reducible refine wpAny_loadPart_at here ?_
    | (with_reducible refine wpAny_isSubtype_exc cls' ?_
       rw [inC])
    | wp_step)
  show wpAny _ _ (typeLookup (.ref C) _) _ _ _
  refine look.at ?_
  refine wpAny_holding (wpAny_bind (bind.at ?_))
  refine wpAny_bind (wpAny_call (codeAny_mono hq fun r s' z => ?_))
  rcases r with e | (v | _ | _ | _) <;> first
    | exact z
    | exact z.elim
    | skip
  obtain ⟨rfl, z⟩ := z
  first
    | exact wpAny_pure (wpAny_pure z)
    | (wp_walk
       exact z)
theorem call_err (F : ExcBaseFacts B newId initId bmB) (hT : ∀ X : String, bm.contains (.type X) = bmB.contains (.type X))
    (hC : h.get? C = some (excClassObj nm q C N bs bm hdct sn sub ab col dd k0 k1 k2 k3 k5 newId))
    (hi : W.Looks (model prog w) h (typeLookup (.ref C) "__init__") (some (.ref fI))) (hb : ∀ self, W.Looks (model prog w) h (bindSpecial (.ref fI) self) (.ref fI, [self])) (few : rest.length ≤ sizeLine)
    (hq : codeAny (model prog w) (A.under (.builtin "type.__call__" ⟨.ref C :: rest, kw⟩)) (.call (.ref fI) ⟨.ref (h.objs.size + 1) :: rest, kw⟩) (W.InitBack (h.objs.size + 1) R)
      ⟨(h.push (W.kdv_tup rest)).push (excO C h.objs.size), g, d, t, os⟩) :
    codeAny (model prog w) A (.call (.ref C) ⟨rest, kw⟩) R ⟨h, g, d, t, os⟩ := by
  have f1 := tc_lookup
  have f2 := tc_bind (.ref C)
  have isT : (⟨h, g, d, t, os⟩ : Shared).TypeIs (.ref C) "type" := ⟨_, hC, rfl⟩
  refine codeAny_of_tree ?_
  show wpAny _ _ (callAny (.ref C) _) _ _ _
  repeat (any_goals (first
    | assumption
    | with_reducible refine wpAny_loadPart_at hC ?_
    | wp_step))
  refine ⟨rfl, ?_⟩
  refine codeAny_call_builtin_at (Code.quiet_builtin _ (by decide +kernel)) entry_typeCall (wpAny_check_type_call_sub hC (class_call F hT hC hi hb few ?_))
  refine codeAny_mono hq fun r s' z => ?_
  rcases r with e | (v | _ | _ | _) <;> exact z
end
end ErrV
end PySem
namespace L2
open PySem PySem.Spec PyProof.Rows
/-- what the top has written of an error of its own: its class at C, its one field f, its __init__ at fI -/
structure ErrC (K : PySem.W.Frag) (C fI : Addr) (f : Str) (fd : FuncData) : Prop where
  t : OexC K C
  e : ExcC K C
  x : XfC K C
  no : PySem.W.findIn K (.ref C) f = some none
  iC : PySem.W.findIn K (.ref C) "__init__" = some (some (.ref fI))
  tI : PySem.W.typeIn K (.ref fI) = some (.type "function")
  bp : ∀ (s : Shared) (u v : Value), BindsTo s fd ⟨[u, v], []⟩ [("self", u), (f, v)]
  bk : ∀ (s : Shared) (u v : Value), BindsTo s fd ⟨[u], [(f, v)]⟩ [("self", u), (f, v)]
/-- __init__: self.f = what was passed -/
def spErrI (C : Addr) (f : Str) : Sp := fun vs H Q _ => ∃ (a : Addr) (v : V), vs = [.ref a, v] ∧ H a = some (exo a C none) ∧
  ∀ d, H d = none → d ≠ a → Q .non (upd (upd H d (exd d [(f, v)])) a (exo a C (some d)))
section
variable {P : Program} {w : World} {K : PySem.W.Frag} {mg : Str → Option Value} {base : Heap}
theorem ok_errI {C fI : Addr} {f qual : Str} {st : Stmt} {fd : FuncData} {q1 q2 q3 q4 : Pos} (F : Fun K "__init__" qual st fI fd) (Z : ErrC K C fI f fd) (S : FnScope ["self", f] ["self", f] (defScope st))
    (hb : defBody st = [.Assign [.Attribute (.Name "self" q1) f q2] (.Name f q3) q4]) (hd : (f == ("__debug__" : Str)) = false) (hcd : (f == ("__classdict__" : Str)) = false) :
    FnOk P w K mg base CX0 1 fI fd ["self", f] (spErrI C f) := by
  refine F.ok S (fun vs H Q E h => ?_) (fun cdv A outer s H vs Q E hr h => ?_)
  · obtain ⟨a, v, rfl, _⟩ := h
    rfl
  · obtain ⟨a, v, rfl, ha, k⟩ := h
    rw [hb]
    have v0 : Vis (defScope st) "self" := (S.par "self" (List.mem_cons_self ..)).elim .inl fun z => .inr (.inl z)
    have v1 : Vis (defScope st) f := (S.par f (List.mem_cons_of_mem _ (List.mem_cons_self ..))).elim .inl fun z => .inr (.inl z)
    refine ⟨_, pss_one (ps_ost (pe_var (i := 0) (by rfl) v0) (pe_var (i := 1) (by rfl) v1 hd hcd)), ?_⟩
    exact ⟨_, rfl, _, rfl, a, C, rfl, Z.t, Z.no, .inl ⟨ha, fun d n ne => k d n ne⟩⟩
end
/-- C(e) | C(f=e) -/
def tErr (C : Addr) (f : Str) (ta : TA) : TE := fun σ H Q => ta σ H fun vs H1 => ∃ v, vs = [v] ∧ ∀ a d, H1 a = none → H1 d = none → d ≠ a → Q (.ref a) (upd (upd H1 d (exd d [(f, v)])) a (exo a C (some d)))
theorem upd_back {H : Hp} {a d : Addr} {o u z : HO} (ne : d ≠ a) : upd (upd (upd H a o) d u) a z = upd (upd H d u) a z := by
  funext b
  by_cases hb : b = a
  · rw [hb, upd_same, upd_same]
  · rw [upd_ne hb, upd_ne hb]
    by_cases hd : b = d
    · rw [hd, upd_same, upd_same]
    · rw [upd_ne hd, upd_ne hd, upd_ne hb]
section
variable {X : Cx} {C fI : Addr} {f x : Str} {fd : FuncData} {k : Nat} {p pos : Pos} {e : Expr} {es : List Expr} {ta : TA}
theorem run_err {pins : List (Addr × Obj)} {σ : St} {H : Hp} {s : Shared} {Q : VK} {v : V} {u : Value} {us : List Value} {kw : List (Str × Value)} (Z : ErrC X.K C fI f fd) (Gi : FnOk X.prog X.w X.K X.mg X.base CX0 k fI fd ["self", f] (spErrI C f)) (hr : Room (k + 1) X.A)
    (few : us.length ≤ sizeLine) (hb : ∀ (s : Shared) (z : Value), BindsTo s fd ⟨z :: us, kw⟩ [("self", z), (f, u)]) (I : Inv X pins σ H s) (r : RelV v u)
    (h : ∀ a d, H a = none → H d = none → d ≠ a → Q (.ref a) (upd (upd H d (exd d [(f, v)])) a (exo a C (some d)))) : wpAny (model X.prog X.w) X.A (call (.ref C) us kw) (EP X pins σ Q) X.xe s := by
  obtain ⟨nm, q, N, bs, bm, sn, sub, ab, col, dd, k0, k1, k2, k3, k5, hC, hbm⟩ := Z.t.cls
  obtain ⟨hp, g, dr, tk, os⟩ := s
  have up : hp.objs.size ≤ hp.objs.size + 1 := Nat.le_succ _
  have free : H (hp.objs.size + 1) = none := I.hok.fresh up
  have old : ∀ b o, hp.get? b = some o → ((hp.push (PySem.W.kdv_tup us)).push (PySem.HandSPX.excO C hp.objs.size)).get? b = some o := fun b o z =>
    Heap.get?_push_of_some _ (Heap.get?_push_of_some _ z)
  have new : ((hp.push (PySem.W.kdv_tup us)).push (PySem.HandSPX.excO C hp.objs.size)).get? (hp.objs.size + 1) = some (PySem.HandSPX.excO C hp.objs.size) := by
    heap_get
  have J : Inv X pins σ (upd H (hp.objs.size + 1) (exo (hp.objs.size + 1) C none)) ⟨(hp.push (PySem.W.kdv_tup us)).push (PySem.HandSPX.excO C hp.objs.size), g, dr, tk, os⟩ :=
    I.laid (t' := tk) (a := hp.objs.size + 1) (o := exo (hp.objs.size + 1) C none) (h' := (hp.push (PySem.W.kdv_tup us)).push (PySem.HandSPX.excO C hp.objs.size)) old up (exo_ok new)
  have both : Vals [V.ref (hp.objs.size + 1), v] [Value.ref (hp.objs.size + 1), u] := .cons rfl (.cons r .nil)
  have asked : spErrI C f [V.ref (hp.objs.size + 1), v] (upd H (hp.objs.size + 1) (exo (hp.objs.size + 1) C none)) (fun z H2 => z = .non ∧ Q (.ref (hp.objs.size + 1)) H2) (fun _ _ _ => False) := by
    refine ⟨_, v, rfl, upd_same, fun d hd ne => ⟨rfl, ?_⟩⟩
    rw [upd_back ne]
    exact h _ d free (by rw [upd_ne ne] at hd; exact hd) ne
  refine wpAny_call (PySem.ErrV.call_err PySem.F.excBase_ValueError (fun Y => PySem.HandSPX.refsVE_contains Y bm hbm) (I.kIn _ _ hC) (PySem.W.looks_findIn I.kIn Z.iC) (fun self => PySem.W.bind_fn I.kIn self Z.tI) few
    (codeAny_mono (Gi.run _ X.stack _ _ ⟨Value.ref (hp.objs.size + 1) :: us, kw⟩ [Value.ref (hp.objs.size + 1), u] _ _ (fun _ _ _ => False) (hr.make C us kw) (J.env0.make C us kw) (hb _ _) both asked) fun r s' back => ?_))
  cases r with
  | error er => exact pass0 pins σ _ _ er s' J back
  | ok fl =>
    cases fl with
    | ret z =>
      obtain ⟨y, H2, J2, rz, ey, q2⟩ := J.after back
      subst ey
      exact ⟨rz, ⟨V.ref (hp.objs.size + 1), H2, J2, rfl, q2⟩⟩
    | next => exact False.elim back
    | brk => exact False.elim back
    | cont => exact False.elim back
theorem one_few (u : Value) : [u].length ≤ sizeLine := by
  rw [sizeLine_eq]
  show 1 ≤ 16777216
  decide
theorem pe_err (Z : ErrC X.K C fI f fd) (F : FnOk X.prog X.w X.K X.mg X.base CX0 k fI fd ["self", f] (spErrI C f)) (hr : Room (k + 1) X.A) (hm : X.mg x = some (.ref C)) (ha : PA X [e] ta) (hg : Gl X x := by rfl)
    (hdb : (x == ("__debug__" : Str)) = false := by decide) (he : starEach [e] X.env = (false, eval e X.env) :: starEach [] X.env := by rfl) (hpl : (backTo pos (starEach [] X.env)).any (·.1) = false := by rfl) :
    PE X (.Call (.Name x p) [e] [] pos) (tErr C f ta) := by
  refine ⟨fun pins s σ H Q I h => ?_⟩
  refine wpAny_Call_Name_kw (ld_glob I hg hm ?_ hdb)
  refine PySem.W.callWith_K (h₀ := X.base) I.ok.mod.kin Z.t.kC (thn (ha.run pos pins s σ H _ I h) fun us s1 ⟨vs, H1, I1, r1, v, ev, q1⟩ => ⟨I1.kIn, ?_⟩) he hpl
  subst ev
  cases r1 with
  | cons r0 rn =>
    cases rn
    exact run_err Z F hr (one_few _) (fun s z => Z.bp s z _) I1 r0 q1
theorem pe_errK {nm : Option Str} {kp : Pos} {te : TE} (Z : ErrC X.K C fI f fd) (F : FnOk X.prog X.w X.K X.mg X.base CX0 k fI fd ["self", f] (spErrI C f)) (hr : Room (k + 1) X.A) (hm : X.mg x = some (.ref C)) (ha : PE X e te) (hn : nm = some f) (hg : Gl X x := by rfl)
    (hdb : (x == ("__debug__" : Str)) = false := by decide) (hall : (backToKw pos (keywordEach [⟨nm, e, kp⟩] X.env)).all (·.1.isSome) = true := by rfl)
    (hpl : ((backTo pos (starEach [] X.env)).any (·.1) || (backToKw pos (keywordEach [⟨nm, e, kp⟩] X.env)).any (·.1.isNone)) = false := by rfl) :
    PE X (.Call (.Name x p) [] [⟨nm, e, kp⟩] pos) (tErr C f (tCons te tNil)) := by
  subst hn
  refine ⟨fun pins s σ H Q I h => ?_⟩
  refine wpAny_Call_Name_kw (ld_glob I hg hm ?_ hdb)
  refine PySem.W.callWith_KW0 (h₀ := X.base) I.ok.mod.kin Z.t.kC hall (thn ((pk_cons (nm := some f) (kpos := kp) ha pk_nil).run pos pins s σ H _ I h) fun us s1 ⟨vs, H1, I1, r1, v, ev, q1⟩ => ⟨I1.kIn, ?_⟩) hpl
  subst ev
  cases r1 with
  | cons r0 rn =>
    cases rn
    exact run_err Z F hr (by show 0 ≤ sizeLine; exact Nat.zero_le _) (fun s z => Z.bk s z _) I1 r0 q1
/-- e.f -/
def tErrF (C : Addr) (f : Str) (te : TE) : TE := fun σ H Q => te σ H fun x H1 => ∃ (a d : Addr) (fs : List (Str × V)) (v : V), x = .ref a ∧ H1 a = some (exo a C (some d)) ∧ H1 d = some (exd d fs) ∧ fs.lookup f = some v ∧ Q v H1
theorem pe_errF {te : TE} {D : Addr} (T : XfC X.K D) (hno : PySem.W.findIn X.K (.ref D) f = some none) (he : PE X e te) (hb : attributeBase e f X.env (eval e X.env) = eval e X.env := by rfl) : PE X (.Attribute e f pos) (tErrF D f te) := by
  refine ⟨fun pins s σ H Q I h => ?_⟩
  refine attr_of hb (thn (he.run pins s σ H _ I h) fun u s1 ⟨x, H1, I1, rx, a, d, fs, v, ex, ea, ed, l, q⟩ => ?_)
  subst ex
  obtain rfl : u = Value.ref a := rx
  obtain ⟨t1, ho⟩ := exo_at I1.hok ea
  obtain ⟨mA, hns, hr⟩ := exd_at I1.hok ed
  obtain ⟨od, hod, hl⟩ := lookIn_ns hns
  obtain ⟨u, hu, ru⟩ := RelO.some_of (v := v) (o := mA f) (by rw [← l]; exact hr f)
  have J : PySem.W.InstAt s1.heap a _ D (some od) := ⟨ho, rfl, rfl, hod⟩
  exact HandSPX.exc_get I1.kIn J T.ga T.gg T.exC (PySem.W.findObj_own T.hdC hno rfl (by rw [hl, hu])) (handed_of ru) ⟨v, H1, I1.tok _, ru, q⟩
/-- C(), an error without own __init__ -/
theorem pe_exc0 {bmB : List Value} {B newId initId : String} (F : ExcBaseFacts B newId initId bmB) (q : PySem.W.excIn X.K C bmB newId = true) (gC : X.mg x = some (.ref C)) (kC : PySem.W.keepIn X.K (.ref C) = true) (hg : Gl X x := by rfl)
    (hdb : (x == ("__debug__" : Str)) = false := by decide) : PE X (.Call (.Name x p) [] [] pos) (fun σ H Q => ∀ a, H a = none → Q (.ref a) (upd H a (ExO (.ref C) a))) := by
  refine ⟨fun pins s σ H Q I h => ?_⟩
  refine wpAny_Call_Name_kw (ld_glob I hg gC ?_ hdb)
  refine PySem.W.callWith_K0 I.kIn kC ?_
  show wpAny _ _ (call (.ref C) []) _ _ _
  obtain ⟨bm, N, nm, qn, bs, hdct, sn, sub, ab, col, dd, k0, k1, k2, k3, k5, mN, hC, hN, hni, T⟩ := exc_obj I.kIn q
  refine wpAny_call_exc_subT F T hC hN hni (fun h' a hm => ?_) (by show 0 ≤ sizeLine; exact Nat.zero_le _)
  have hn : H a = none := I.hok.gone hm.new
  obtain ⟨t, ht, _, _⟩ := hm.there
  exact ⟨.ref a, upd H a (ExO (.ref C) a), I.laidN hm.keeps hm.new hn (exO_ok ht ⟨rfl, rfl⟩ rfl rfl rfl (show 4 < 6 by decide)), rfl, h a hn⟩
end
end L2
namespace L2
open PySem PySem.Spec PyProof.Rows LamX
theorem clo_nil {cells : List (Str × Addr)} : ∀ {names : List (Str × NameKind)} {acc : List (Str × Addr)}, (∀ y ∈ names, y.2 ≠ .free) → cloFrom cells names acc = acc
  | [], _, _ => rfl
  | (n, k) :: r, acc, h => by
    have hk : (k == NameKind.free) = false := by
      have z := h (n, k) (List.mem_cons_self ..)
      cases k <;> first | rfl | exact absurd rfl z
    unfold cloFrom
    rw [if_neg (by rw [hk]; exact Bool.false_ne_true)]
    exact clo_nil fun y hy => h y (List.mem_cons_of_mem _ hy)
/-- the body of a lambda without captured names, q its name -/
abbrev lamO (q : Str) (params : Arguments) (body : Expr) (scope : Scope) (pm : Value) (c' : Addr) (ctv : Value) : Obj := PySem.W.kla_obj "<lambda>" q params body scope [] pm c' ctv
/-- a lambda stands at f, its code object at c' -/
def LamAt (f c' : Addr) (q : Str) (params : Arguments) (body : Expr) (scope : Scope) : HO := .ext fun h => ∃ pm ctv : Value, h.get? f = some (lamO q params body scope pm c' ctv)
theorem lamAt_ok {P : Program} {w : World} {H : Hp} {h : Heap} {f c' : Addr} {q : Str} {params : Arguments} {body : Expr} {scope : Scope} {pm ctv : Value} (e : h.get? f = some (lamO q params body scope pm c' ctv)) : ObjOk P w H h f (LamAt f c' q params body scope) :=
  ⟨⟨pm, ctv, e⟩, ⟨_, e⟩, fun _ _ ⟨a, b, z⟩ k => ⟨a, b, k _ z⟩⟩
theorem lamAt_get {P : Program} {w : World} {H : Hp} {h : Heap} {f c' : Addr} {q : Str} {params : Arguments} {body : Expr} {scope : Scope} (ok : HOk P w H h) (e : H f = some (LamAt f c' q params body scope)) : ∃ pm ctv : Value, h.get? f = some (lamO q params body scope pm c' ctv) := by
  have z : ObjOk P w H h f (.ext fun h => ∃ pm ctv : Value, h.get? f = some (lamO q params body scope pm c' ctv)) := ok f _ e
  exact z.1
section
variable {X : Cx} {pins : List (Addr × Obj)} {σ : L2.St} {H : Hp} {s : Shared}
/-- a lambda without captured names is made, and tracked -/
theorem lam_laid {T : List (Addr × Str)} {c P : Addr} {params : Arguments} {body : Expr} {scope : Scope} {pos : Pos} {E : Value → Shared → Prop} {Q : Value → Shared → Prop} (I : Inv X pins σ H s) (TB : TabB X.base X.mg c P) (hcode : X.env.code = .ref c)
    (hm : (P, X.env.qual ++ "<lambda>") ∈ T) (hu : ∀ p ∈ T, p.1 = P → p.2 = X.env.qual ++ "<lambda>") (hT : Tabs T H) (hdef : defaultsOf params X.env = ([], [])) (hnf : ∀ y ∈ scope.names, y.2 ≠ .free)
    (h : ∀ (f c' : Addr) (H1 : Hp) (s' : Shared), Inv X pins σ (upd H1 f (LamAt f c' (X.env.qual ++ "<lambda>") params body scope)) s' → ExtN H H1 → Tabs T H1 → H1 f = none → H1 c' = some (CodeO c' (X.env.qual ++ "<lambda>")) → Q (.ref f) s') :
    wpAny (model X.prog X.w) X.A (eval (.Lambda params body scope pos) X.env) Q E s := by
  obtain ⟨ps, hP, ht, ha⟩ := hT _ hm
  have hclo : cloFrom X.env.cells scope.names [] = [] := clo_nil hnf
  have okc : closureFor scope X.env = pure ([] : List (Str × Addr)) := by
    have z := closure_ok (env := X.env) (scope := scope) fun y hy e => absurd e (hnf y hy)
    rw [hclo] at z
    exact z
  refine PySem.W.kla_eval hdef ?_
  have bP : s.heap.BuiltinsAt X.mg P := TB.bm.keeps I.bk
  have hP' : s.heap.get? P = some { cls := .none, data := .fields ps } := I.hok P _ hP
  have lay : ∀ {H1 : Hp} {h' : Heap} {c' : Addr} {pm ctv : Value} {tk : Nat}, Inv X pins σ H1 { s with heap := h', toks := tk } →
      Inv X pins σ (upd H1 h'.objs.size (LamAt h'.objs.size c' (X.env.qual ++ "<lambda>") params body scope)) { s with heap := h'.push (lamO (X.env.qual ++ "<lambda>") params body scope pm c' ctv), toks := tk } := fun {H1 h' c' pm ctv tk} J =>
    J.laid (t' := tk) (a := h'.objs.size) (h' := h'.push (lamO (X.env.qual ++ "<lambda>") params body scope pm c' ctv)) (fun b o e => Heap.get?_push_of_some _ e) (Nat.le_refl _) (lamAt_ok (Heap.get?_push_size _ rfl))
  cases hc : codeAmong pos ps.toList with
  | none =>
    refine PySem.W.kla_makeFunction (mg := X.mg) (c := c) (P := P) (ps := ps) okc I.ok.glob (I.mod.glob.keeps I.bk) hcode (TB.code.keeps I.bk) hP' ht hc TB.gP bP fun c' ctv h' tk hx hge hlt hrec htb => ?_
    obtain ⟨c2, oc, vs, t, e2, hoc, hd, hv⟩ := hrec
    cases e2
    have nC : H c' = none := I.hok.fresh hge
    have I1 := inv_table (q := X.env.qual ++ "<lambda>") (t' := tk) (more := #[rawInt pos.line, rawInt pos.col, .ref c']) (h' := h') I hP hx htb hge ⟨oc, vs, t, hoc, hd, hv⟩
    have hE : ExtN H (upd (upd H P (.tbl (ps ++ #[rawInt pos.line, rawInt pos.col, .ref c']))) c' (CodeO c' (X.env.qual ++ "<lambda>"))) := fun b o e n => by
      rw [upd_ne (ne_of_none e nC), upd_ne (fun z => n ps (Option.some.inj (e.symm.trans (by rw [z]; exact hP))))]
      exact e
    have eL : (ps ++ #[rawInt pos.line, rawInt pos.col, .ref c']).toList = ps.toList ++ [rawInt pos.line, rawInt pos.col, .ref c'] := by simp
    refine h h'.objs.size c' _ _ (lay I1) hE (fun p hp => ?_) ?_ upd_same
    · by_cases hb : p.1 = P
      · rw [hu p hp hb, hb]
        refine ⟨_, by rw [upd_ne (ne_of_none hP nC), upd_same], by rw [eL]; exact PySem.TriplesOk_snoc _ _ _ _ ht, fun p' cv hcv => ?_⟩
        rw [eL] at hcv
        rcases among_app _ ht hcv with z | z
        · obtain ⟨c0, e1, e2⟩ := ha p' cv z
          exact ⟨c0, e1, hE _ _ e2 codeO_ne⟩
        · exact ⟨c', z, upd_same⟩
      · obtain ⟨ps', a1, a2, a3⟩ := hT p hp
        refine ⟨ps', by rw [upd_ne (ne_of_none a1 nC), upd_ne hb]; exact a1, a2, fun p' cv hcv => ?_⟩
        obtain ⟨c0, e1, e2⟩ := a3 p' cv hcv
        exact ⟨c0, e1, hE _ _ e2 codeO_ne⟩
    · have z := I1.hok.fresh (Nat.le_refl h'.objs.size)
      exact z
  | some cv =>
    obtain ⟨c', e, hco⟩ := ha pos cv hc
    subst e
    refine PySem.W.kla_makeFunctionHit (mg := X.mg) (c := c) (P := P) (ps := ps) okc I.ok.glob (I.mod.glob.keeps I.bk) hcode (TB.code.keeps I.bk) hP' ht hc bP fun ctv h' tk hx hsz => ?_
    have I1 : Inv X pins σ H { s with heap := h', toks := tk } := I.kept fun b o e => hx b o e
    exact h h'.objs.size c' H _ (lay I1) (ExtN.refl H) hT (I1.hok.fresh (Nat.le_refl h'.objs.size)) hco
/-- lambda ..: .. as a value -/
theorem pe_lamV {T : List (Addr × Str)} {c P : Addr} {params : Arguments} {body : Expr} {scope : Scope} {pos : Pos} (TB : TabB X.base X.mg c P) (hcode : X.env.code = .ref c)
    (hm : (P, X.env.qual ++ "<lambda>") ∈ T) (hu : ∀ p ∈ T, p.1 = P → p.2 = X.env.qual ++ "<lambda>") (hnf : ∀ y ∈ scope.names, y.2 ≠ .free) (hdef : defaultsOf params X.env = ([], []) := by rfl) :
    PE X (.Lambda params body scope pos) (fun σ H Q => Tabs T H ∧ ∀ f c' H1, ExtN H H1 → Tabs T H1 → H1 f = none → H1 c' = some (CodeO c' (X.env.qual ++ "<lambda>")) → Q (.ref f) (upd H1 f (LamAt f c' (X.env.qual ++ "<lambda>") params body scope))) :=
  ⟨fun pins s σ H Q I h => lam_laid I TB hcode hm hu h.1 hdef hnf fun f c' H1 s' J e1 e2 e3 e4 => ⟨.ref f, _, J, rfl, h.2 f c' H1 e1 e2 e3 e4⟩⟩
end
/-- x(e), x a local name that holds such a lambda of one parameter; tb: what its body reads -/
def tLamC (i : Nat) (y : Str) (q : Str) (params : Arguments) (body : Expr) (scope : Scope) (tb : TE) (ta : TA) : TE := fun σ H Q => ∃ f c', σ[i]? = some (some (.ref f)) ∧ H f = some (LamAt f c' q params body scope) ∧ ta σ H fun vs H1 => ∃ v : V, vs = [v] ∧ H1 f = some (LamAt f c' q params body scope) ∧ H1 c' = some (CodeO c' q) ∧ tb [some v] H1 Q
section
variable {X : Cx} {i k : Nat} {x y q : Str} {params : Arguments} {body : Expr} {scope : Scope} {tb : TE} {ta : TA} {e : Expr} {p pos : Pos}
theorem pe_lamC (S : FnScope [y] [y] scope) (hr : Room (k + 1) X.A) (hN : X.N[i]? = some x) (hv : Vis X.env.scope x)
    (hbind : ∀ (pm : Value) (c' : Addr) (ctv u : Value), bindArgs (PySem.W.kla_fn "<lambda>" q params body scope [] pm (.ref c') ctv) ⟨[u], []⟩ = pure [(y, u)])
    (hbody : ∀ (A : Around) (outer : List Env) (s : Shared) (H : Hp) (f : Addr) (cd : Value), Room k (A.deeper (envOfC q scope s.heap.objs.size f cd)) → PE (cxOf CX0 X.prog X.w X.K X.mg X.base [y] q scope f cd A outer s H E0) body tb)
    (ha : PA X [e] ta) (hd : (x == ("__debug__" : Str)) = false := by decide) (hcd : (x == ("__classdict__" : Str)) = false := by decide)
    (he : starEach [e] X.env = (false, eval e X.env) :: starEach [] X.env := by rfl) (hpl : (backTo pos (starEach [] X.env)).any (·.1) = false := by rfl) :
    PE X (.Call (.Name x p) [e] [] pos) (tLamC i y q params body scope tb ta) := by
  refine ⟨fun pins s σ H Q I h => ?_⟩
  obtain ⟨f, c', hs, hf0, ht⟩ := h
  refine wpAny_Call_Name_kw (thn ((pe_var (pos := p) hN hv hd hcd).run pins s σ H (fun v H1 => v = .ref f ∧ H1 = H) I ⟨.ref f, hs, rfl, rfl⟩) fun u s1 ⟨v, H1, I1, r1, q1⟩ => ?_)
  obtain ⟨ev, eH⟩ := q1
  subst ev
  subst eH
  obtain rfl : u = Value.ref f := r1
  obtain ⟨pm0, ctv0, o0⟩ := lamAt_get I1.hok hf0
  refine PySem.W.callWith_F ⟨_, _, _, _, o0⟩ (thn (ha.run pos pins s1 σ H1 _ I1 ht) fun us s2 ⟨vs, H2, I2, r2, v, ew, hf, hc, q2⟩ => ?_) he hpl
  subst ew
  obtain ⟨pm, ctv, o⟩ := lamAt_get I2.hok hf
  refine ⟨⟨_, _, _, _, o⟩, ?_⟩
  cases r2 with
  | @cons _ u0 _ ur r0 rn =>
    cases rn
    obtain ⟨⟨oc, vs, t, hoc, hdc, hvc⟩, _, _⟩ := I2.hok c' _ hc
    have hkind : ∀ z ∈ [y].zip [u0], scope.names.lookup z.1 = some .local ∨ (scope.names.lookup z.1 = some .cell ∧ ((cellsFrom (s2.heap.objs.size + 1) scope.names []).lookup z.1).isSome = true) := fun ⟨n, w'⟩ hz => by
      rcases S.par n (List.of_mem_zip hz).1 with z | z
      · exact .inl z
      · exact .inr ⟨z, PySem.W.cellsFrom_some _ _ _ (.inl z)⟩
    have rc : codeAny (model X.prog X.w) X.A (.call (.ref f) ⟨[u0], []⟩) (CR CX0 X.stack X.prog X.w H2 s2 Q E0) s2 := by
      refine PySem.W.kla_callFunE hr.depth o rfl S.co S.gen rfl ⟨c', oc, vs, t, rfl, hoc, hdc, hvc⟩ ?_
      rw [hbind]
      refine wpAny_pure (wpAny_newFunctionEnv_cells S.kind hkind fun env he s3 x => ?_)
      subst he
      refine ⟨I2.nolimit.keeps x.toInCall.keep, ?_⟩
      have J : Inv (cxOf CX0 X.prog X.w X.K X.mg X.base [y] q scope f (.ref c') X.A X.stack s2 H2 E0) [] (start [y] [v]) H2 s3 := inv_start S hr.hd I2.env0 rfl (.cons r0 .nil) x
      refine PySem.W.kla_codeExpr (wpAny_mono ((hbody X.A X.stack s2 H2 f (.ref c') (hr.deeper _)).run [] s3 (start [y] [v]) H2 Q J q2) (fun z s' hq => ?_) fun e s' hq => hq)
      obtain ⟨v', H', J', rv, q⟩ := hq
      exact ⟨v', H', J'.os, J'.bare, J'.base, J'.hok, rv, q⟩
    refine wpAny_call (codeAny_mono rc fun r s' back => ?_)
    cases r with
    | error er => exact pass0 pins σ _ _ er s' I2 back
    | ok fl =>
      cases fl with
      | ret z => exact I2.after back
      | next => exact False.elim back
      | brk => exact False.elim back
      | cont => exact False.elim back
end
end L2
namespace L2
open PySem PySem.Spec PyProof.Rows
section
variable {X : Cx} {C fI : Addr} {f x : Str} {fd : FuncData} {k : Nat} {p pos : Pos} {e : Expr} {ta : TA}
/-- C(e), raised: an own error with the one field f -/
def tMkE (C : Addr) (f : Str) (ta : TA) : St → Hp → XK → Prop := fun σ H Q => ta σ H fun vs H1 => ∃ v, vs = [v] ∧ ∀ d, H1 d = none → Q (.ref C) (some d) (upd H1 d (.xd [(f, v)]))
theorem del_made {H : Hp} {a d : Addr} {o u z w : HO} (ha : H a = none) (ne : d ≠ a) : upd (del (upd (upd (upd H a o) d u) a z) a) d w = upd H d w := by
  funext b
  by_cases hd : b = d
  · rw [hd, upd_same, upd_same]
  · rw [upd_ne hd, upd_ne hd]
    by_cases hb : b = a
    · rw [hb, del_same, ha]
    · rw [del_ne hb, upd_ne hb, upd_ne hd, upd_ne hb]
theorem pmk_err (Z : ErrC X.K C fI f fd) (G : FnOk X.prog X.w X.K X.mg X.base CX0 k fI fd ["self", f] (spErrI C f)) (hr : Room (k + 1) X.A) (hm : X.mg x = some (.ref C)) (ha : PA X [e] ta) (hg : Gl X x := by rfl)
    (hdb : (x == ("__debug__" : Str)) = false := by decide) (he : starEach [e] X.env = (false, eval e X.env) :: starEach [] X.env := by rfl) (hpl : (backTo pos (starEach [] X.env)).any (·.1) = false := by rfl) :
    PMk X (.Call (.Name x p) [e] [] pos) (tMkE C f ta) := by
  intro pins s σ H Q I h
  refine wpAny_Call_Name_kw (ld_glob I hg hm ?_ hdb)
  refine PySem.W.callWith_K (h₀ := X.base) I.ok.mod.kin Z.t.kC (thn (ha.run pos pins s σ H _ I h) fun us s1 ⟨vs, H1, I1, r1, v, ev, q1⟩ => ⟨I1.kIn, ?_⟩) he hpl
  subst ev
  cases r1 with
  | @cons _ u _ ur r0 rn =>
    cases rn
    obtain ⟨nm, q, N, bs, bm, sn, sub, ab, col, dd, k0, k1, k2, k3, k5, hC, hbm⟩ := Z.t.cls
    obtain ⟨hp, g, dr, tk, os⟩ := s1
    have up : hp.objs.size ≤ hp.objs.size + 1 := Nat.le_succ _
    have free : H1 (hp.objs.size + 1) = none := I1.hok.fresh up
    have old : ∀ b o, hp.get? b = some o → ((hp.push (PySem.W.kdv_tup [u])).push (PySem.HandSPX.excO C hp.objs.size)).get? b = some o := fun b o z =>
      Heap.get?_push_of_some _ (Heap.get?_push_of_some _ z)
    have new : ((hp.push (PySem.W.kdv_tup [u])).push (PySem.HandSPX.excO C hp.objs.size)).get? (hp.objs.size + 1) = some (PySem.HandSPX.excO C hp.objs.size) := by
      heap_get
    have J : Inv X pins σ (upd H1 (hp.objs.size + 1) (exo (hp.objs.size + 1) C none)) ⟨(hp.push (PySem.W.kdv_tup [u])).push (PySem.HandSPX.excO C hp.objs.size), g, dr, tk, os⟩ :=
      I1.laid (t' := tk) (a := hp.objs.size + 1) (o := exo (hp.objs.size + 1) C none) (h' := (hp.push (PySem.W.kdv_tup [u])).push (PySem.HandSPX.excO C hp.objs.size)) old up (exo_ok new)
    have both : Vals [V.ref (hp.objs.size + 1), v] [Value.ref (hp.objs.size + 1), u] := .cons rfl (.cons r0 .nil)
    have asked : spErrI C f [V.ref (hp.objs.size + 1), v] (upd H1 (hp.objs.size + 1) (exo (hp.objs.size + 1) C none))
        (fun z H2 => z = .non ∧ ∃ d, d ≠ hp.objs.size + 1 ∧ H1 d = none ∧ H2 = upd (upd (upd H1 (hp.objs.size + 1) (exo (hp.objs.size + 1) C none)) d (exd d [(f, v)])) (hp.objs.size + 1) (exo (hp.objs.size + 1) C (some d))) (fun _ _ _ => False) :=
      ⟨_, v, rfl, upd_same, fun d hd ne => ⟨rfl, d, ne, by rw [upd_ne ne] at hd; exact hd, rfl⟩⟩
    refine wpAny_call (PySem.ErrV.call_err PySem.F.excBase_ValueError (fun Y => PySem.HandSPX.refsVE_contains Y bm hbm) (I1.kIn _ _ hC) (PySem.W.looks_findIn I1.kIn Z.iC) (fun self => PySem.W.bind_fn I1.kIn self Z.tI) (one_few _)
      (codeAny_mono (G.run _ X.stack _ _ ⟨[Value.ref (hp.objs.size + 1), u], []⟩ [Value.ref (hp.objs.size + 1), u] _ _ (fun _ _ _ => False) (hr.make C [u] []) (J.env0.make C [u] []) (Z.bp _ _ _) both asked) fun r s' back => ?_))
    cases r with
    | error er => exact pass0 pins σ _ _ er s' J back
    | ok fl =>
      cases fl with
      | ret z =>
        obtain ⟨y, H2, os2, bare2, un2, hok2, rz, ey, d, ne, hd, eH⟩ := back
        subst ey
        subst eH
        obtain ⟨h2, g2, d2, t2, os'⟩ := s'
        refine ⟨rz, mk_end (raises_own Z.t.exC Z.t.tyC) I1 up old un2 hok2 os2 bare2 upd_same (by rw [upd_ne ne]; exact upd_same) hd ?_⟩
        rw [del_made free ne]
        exact q1 d hd
      | next => exact False.elim back
      | brk => exact False.elim back
      | cont => exact False.elim back
/-- C(), raised: an own error without own __init__ -/
theorem pmk_exc0 {bmB : List Value} {B newId initId : String} (F : ExcBaseFacts B newId initId bmB) (q : PySem.W.excIn X.K C bmB newId = true) (gC : X.mg x = some (.ref C)) (kC : PySem.W.keepIn X.K (.ref C) = true) (r : Raises X (.ref C)) (hg : Gl X x := by rfl)
    (hdb : (x == ("__debug__" : Str)) = false := by decide) : PMk X (.Call (.Name x p) [] [] pos) (fun _ H Q => Q (.ref C) none H) := by
  intro pins s σ H Q I h
  refine wpAny_Call_Name_kw (ld_glob I hg gC ?_ hdb)
  refine PySem.W.callWith_K0 I.kIn kC ?_
  show wpAny _ _ (call (.ref C) []) _ _ _
  obtain ⟨bm, N, nm, qn, bs, hdct, sn, sub, ab, col, dd, k0, k1, k2, k3, k5, mN, hC, hN, hni, T⟩ := exc_obj I.kIn q
  refine wpAny_call_exc_subT F T hC hN hni (fun h' e hm => ?_) (by show 0 ≤ sizeLine; exact Nat.zero_le _)
  exact mk_of I hm r h (I.hok.gone hm.new)
end
end L2
namespace TW
open PySem PySem.Spec PyProof.Rows L2
def top (i : Nat) : Stmt := PySem.Challenge.pw_turnways_k08_belts.main.body.getD i (.Pass ⟨0, 0, 0, 0⟩)
/-- names that are still the built-ins' -/
structure Blt (mg : Str → Option Value) : Prop where
  len : mg "len" = none
  int : mg "int" = none
  bool : mg "bool" = none
  str : mg "str" = none
  list : mg "list" = none
  tuple : mg "tuple" = none
  dict : mg "dict" = none
  isi : mg "isinstance" = none
  all : mg "all" = none
  zip : mg "zip" = none
  range : mg "range" = none
  sorted : mg "sorted" = none
  enumerate : mg "enumerate" = none
section
variable {K : PySem.W.Frag} {H H' : Hp}
theorem seqT_same {a : Addr} {xs : List V} (e : Same H H') (h : SqT K H a xs) : SqT K H' a xs := by
  rcases h with (h | ⟨o, h⟩) | h
  · exact .inl (.inl (e _ _ h))
  · exact .inl (.inr ⟨o, e _ _ h⟩)
  · exact .inr h
theorem same_new {p : Addr} {o : HO} (hp : H p = none) : Same H (upd H p o) := fun b u e => by
  rw [upd_ne (ne_of_none e hp)]
  exact e
theorem tyx_list {a : Addr} {xs : List V} (h : SqL K H a xs) : TyX K H (.ref a) (.type "list") := by
  rcases h with (h | ⟨o, h⟩) | ⟨o, its, n, h, c, _⟩
  · exact .base (.lst h)
  · exact .base (.frz h)
  · exact .kList h c
theorem tyx_tup {a : Addr} {xs : List V} (h : SqT K H a xs) : TyX K H (.ref a) (.type "tuple") := by
  rcases h with (h | ⟨o, h⟩) | ⟨o, its, n, h, c, _⟩
  · exact .base (.tup h)
  · exact .fTuple h
  · exact .kTuple h c
def kitAB (T : String) : List String → Option Bool
  | [] => some false
  | c :: r => match kitB T c with
    | some true => some true
    | some false => kitAB T r
    | none => none
theorem kitA {T : String} {cs : List String} {b : Bool} (h : kitAB T cs = some b) : PySem.W.kitAny K (.type T) (cs.map Value.type) = some b := by
  induction cs with
  | nil => exact h
  | cons c r ih =>
    have e : PySem.W.kitOne K (.type T) (.type c) = kitB T c := rfl
    show (match PySem.W.kitOne K (.type T) (.type c) with | some true => some true | some false => PySem.W.kitAny K (.type T) (r.map Value.type) | none => none) = some b
    rw [e]
    unfold kitAB at h
    cases q : kitB T c with
    | none =>
      rw [q] at h
      cases h
    | some z =>
      rw [q] at h
      cases z with
      | true => exact h
      | false => exact ih h
theorem iteD {c A B : Prop} [Decidable c] (hc : c) (h : A) : if decide c = true then A else B := by
  rw [decide_eq_true hc]
  exact iteT h
theorem two_sz : 2 ≤ sizeLine := by
  rw [sizeLine_eq]
  decide
/-- whether x is a value, nested at most n deep -/
inductive Vn (K : PySem.W.Frag) (H : Hp) : Nat → V → Bool → Prop where
  | non (n : Nat) : Vn K H n .non true
  | bl (n : Nat) (b : Bool) : Vn K H n (.bl b) true
  | int (n : Nat) (i : Int) : Vn K H n (.int i) true
  | str (n : Nat) (x : Str) : Vn K H n (.str x) true
  | tup {n : Nat} {a : Addr} {xs : List V} {bs : List Bool} (h : SqT K H a xs) (hl : xs.length = bs.length) (few : xs.length ≤ 1000) (each : ∀ (i : Nat) (x : V) (b : Bool), xs[i]? = some x → bs[i]? = some b → Vn K H n x b) : Vn K H (n + 1) (.ref a) (bs.all id)
  | other (n : Nat) {a : Addr} {T : String} (ty : ∀ H', Same H H' → TyX K H' (.ref a) (.type T)) (k1 : kitB T "tuple" = some false) (k2 : kitAB T ["int", "str"] = some false) : Vn K H n (.ref a) false
theorem Vn.same {n : Nat} {x : V} {b : Bool} (e : Same H H') (h : Vn K H n x b) : Vn K H' n x b := by
  induction h with
  | non n => exact .non n
  | bl n b => exact .bl n b
  | int n i => exact .int n i
  | str n x => exact .str n x
  | tup h hl few _ ih => exact .tup (seqT_same e h) hl few fun i x b h1 h2 => ih i x b h1 h2
  | other n ty k1 k2 => exact .other n (fun H'' z => ty H'' (e.trans z)) k1 k2
end
def spIsV (K : PySem.W.Frag) (n : Nat) : Sp := fun vs H Q _ => ∃ (x : V) (b : Bool), vs = [x] ∧ Vn K H n x b ∧ ∀ H', Same H H' → Q (.bl b) H'
abbrev sIsV : Stmt := top 17
section
variable {P : Program} {w : World} {K : PySem.W.Frag} {mg : Str → Option Value} {base : Heap}
theorem fn_never {CX : CXT} {f : Addr} {fd : FuncData} {ps : List Str} {k : Nat} : FnOk P w K mg base CX k f fd ps (fun _ _ _ _ => False) := ⟨fun _ _ _ _ h => h.elim, fun _ _ _ _ _ _ _ _ _ _ _ _ _ h => h.elim⟩
theorem scIsV : FnScope ["given", "inner"] ["given"] (defScope sIsV) := ⟨rfl, rfl, rfl, by decide +kernel, rfl, by decide +kernel, by decide +kernel⟩
theorem isV_body {f : Addr} {fd : FuncData} {n k : Nat} {spR : Sp} (F : Fun K "is_value" "is_value" sIsV f fd) (B : Blt mg) (hm : mg "is_value" = some (.ref f)) (bS : Binds K fd ["given"] [])
    (R : FnOk P w K mg base CX0 k f fd ["given"] spR) (hR : ∀ m, n = m + 1 → spR = spIsV K m) : FnOk P w K mg base CX0 (k + 1) f fd ["given"] (spIsV K n) := by
  refine F.ok scIsV (fun vs H Q E h => ?_) (fun cdv A outer s H vs Q E hr h => ?_)
  · obtain ⟨x, b, rfl, _⟩ := h
    rfl
  · obtain ⟨x, b, rfl, hV, kQ⟩ := h
    refine ⟨_, pss_cons (ps_if (pt_val (pe_callB call_isi (by rfl) B.isi (by decide +kernel) (pa_cons (pv 0) (pa_cons (pe_bltn (v := .ty "tuple") (by rfl) B.tuple (by decide +kernel) rfl) pa_nil))))
        (pss_one (ps_ret (pe_callB (cr_all rfl) (by rfl) B.all (by decide +kernel) (pa_cons
          (pe_lc (own := [("inner", 1)]) (g := gName 1) rfl scIsV.nd (pi_tup (pv 0)) (blkOk_by (N := ["given", "inner"]) (sc := defScope sIsV) (by decide +kernel))
            (fun _ _ _ _ _ => pg_name (i := 1) scIsV.nd rfl (Or.inl rfl)) (fun _ _ _ _ _ => pts_nil) (fun _ _ _ _ _ => pe_call R hr rfl hm F.kp bS .nil pass0 (pa_cons (pv 1) pa_nil))) pa_nil)))) pss_nil)
      (pss_one (ps_ret (pe_or (pe_cmpR op_isN (pv 0) pe_non (nomark _)) (pe_one (pe_callB call_isiT (by rfl) B.isi (by decide +kernel) (pa_cons (pv 0) (pa_cons (pe_tup (pa_cons (pe_bltn (v := .ty "int") (by rfl) B.int (by decide +kernel) rfl) (pa_cons (pe_bltn (v := .ty "str") (by rfl) B.str (by decide +kernel) rfl) pa_nil))) pa_nil))))))), ?_⟩
    cases hV with
    | non =>
      refine ⟨_, rfl, _, _, _, _, _, rfl, .ty _, .base .non, kit_ty (r := false) (by decide +kernel), _, rfl, ?_⟩
      refine iteF ?_
      refine ⟨_, rfl, rfl, _, rfl, ?_⟩
      exact iteD rfl (kQ _ (Same.refl _))
    | bl _ z =>
      refine ⟨_, rfl, _, _, _, _, _, rfl, .ty _, .base (.bl z), kit_ty (r := false) (by decide +kernel), _, rfl, ?_⟩
      refine iteF ?_
      refine ⟨_, rfl, rfl, _, rfl, ?_⟩
      rw [decide_eq_false (by intro z; cases z)]
      refine iteF ?_
      refine ⟨_, rfl, two_sz, fun p hp => ?_⟩
      exact ⟨_, p, _, _, [.type "int", .type "str"], _, rfl, upd_same, .cons (.ty _) (.cons (.ty _) .nil), .base (.bl z), kitA (cs := ["int", "str"]) (b := true) (by decide +kernel), kQ _ (same_new hp)⟩
    | int _ i =>
      refine ⟨_, rfl, _, _, _, _, _, rfl, .ty _, .base (.int i), kit_ty (r := false) (by decide +kernel), _, rfl, ?_⟩
      refine iteF ?_
      refine ⟨_, rfl, rfl, _, rfl, ?_⟩
      rw [decide_eq_false (by intro z; cases z)]
      refine iteF ?_
      refine ⟨_, rfl, two_sz, fun p hp => ?_⟩
      exact ⟨_, p, _, _, [.type "int", .type "str"], _, rfl, upd_same, .cons (.ty _) (.cons (.ty _) .nil), .base (.int i), kitA (cs := ["int", "str"]) (b := true) (by decide +kernel), kQ _ (same_new hp)⟩
    | str _ z =>
      refine ⟨_, rfl, _, _, _, _, _, rfl, .ty _, .base (.str z), kit_ty (r := false) (by decide +kernel), _, rfl, ?_⟩
      refine iteF ?_
      refine ⟨_, rfl, rfl, _, rfl, ?_⟩
      rw [decide_eq_false (by intro z; cases z)]
      refine iteF ?_
      refine ⟨_, rfl, two_sz, fun p hp => ?_⟩
      exact ⟨_, p, _, _, [.type "int", .type "str"], _, rfl, upd_same, .cons (.ty _) (.cons (.ty _) .nil), .base (.str z), kitA (cs := ["int", "str"]) (b := true) (by decide +kernel), kQ _ (same_new hp)⟩
    | other _ ty k1 k2 =>
      refine ⟨_, rfl, _, _, _, _, _, rfl, .ty _, ty _ (Same.refl _), kit_ty k1, _, rfl, ?_⟩
      refine iteF ?_
      refine ⟨_, rfl, rfl, _, rfl, ?_⟩
      rw [decide_eq_false (by intro z; cases z)]
      refine iteF ?_
      refine ⟨_, rfl, two_sz, fun p hp => ?_⟩
      exact ⟨_, p, _, _, [.type "int", .type "str"], _, rfl, upd_same, .cons (.ty _) (.cons (.ty _) .nil), ty _ (same_new hp), kitA (cs := ["int", "str"]) k2, kQ _ (same_new hp)⟩
    | @tup m a xs bs h hl few each =>
      have e := hR m rfl
      subst e
      refine ⟨_, rfl, _, _, _, _, _, rfl, .ty _, tyx_tup h, kit_ty (r := true) (by decide +kernel), _, rfl, ?_⟩
      refine iteT ?_
      refine ⟨_, rfl, a, rfl, ⟨_, h⟩, fun D hD => ?_⟩
      refine lc_it walk_tup (fun i H' => Same H H' ∧ H' D = some (.lst ((bs.take i).map V.bl))) ⟨same_new hD, upd_same⟩ (fun i H' _ z => seqT_same z.1 h) ?_ ?_
      · rintro i x H' H'' hi ⟨z, hd⟩ ⟨rfl, hx⟩
        have hib : i < bs.length := hl ▸ hi
        refine ⟨rfl, ?_⟩
        unfold tYes
        dsimp only
        refine iteT ?_
        refine ⟨_, rfl, x, bs[i], rfl, (each i x bs[i] hx (List.getElem?_eq_getElem hib)).same z, fun H4 s4 => ?_⟩
        refine ⟨_, s4 _ _ hd, ?_, fun c o e => ?_, ?_⟩
        · rw [List.length_map, List.length_take, sizeLine_eq]
          omega
        · rw [upd_ne (ne_of_none e hD)]
          exact s4 c o (z c o e)
        · rw [upd_same, List.take_succ, List.map_append, List.getElem?_eq_getElem hib]
          rfl
      · rintro H' ⟨z, hd⟩
        rw [hl, List.take_length] at hd
        exact ⟨D, bs, rfl, SqL.of hd, kQ _ z⟩
theorem ok_isV {f : Addr} {fd : FuncData} (F : Fun K "is_value" "is_value" sIsV f fd) (B : Blt mg) (hm : mg "is_value" = some (.ref f)) (bS : Binds K fd ["given"] []) :
    ∀ n : Nat, FnOk P w K mg base CX0 (n + 1) f fd ["given"] (spIsV K n)
  | 0 => isV_body (k := 0) F B hm bS fn_never fun m e => nomatch e
  | n + 1 => isV_body (k := n + 1) F B hm bS (ok_isV F B hm bS n) fun m e => by
    cases e
    rfl
end
end TW
namespace TWHead
open PySem PySem.Spec PySem.W PySem.Calls PyProof.Rows L2 TW
abbrev R : OpenRow := OpenLaw.row PySem.Challenge.rw_turnways_k08_belts
abbrev qv : Program := view R.prog [85]
def names0 : List PySem.Str := ["_wall", "__name__", "TurnError", "BadWorks", "BadName", "BadValue", "BadSize", "BadLimit", "NoThing", "NotHeld", "NoWork", "CanNot"]
def names1 : List PySem.Str := ["Held", "LONGEST_WORD", "is_whole", "is_word", "is_value", "same", "check_value", "check_thing", "check_going", "check_call", "halt", "ask"]
def names2 : List PySem.Str := ["Hand", "Place", "returned", "come", "Things", "first_things", "things_again", "has_room", "need_not_wait", "do_nothing", "do_look", "do_put"]
def names3 : List PySem.Str := ["do_swap", "do_trade", "do_take", "do_give", "do_reach", "do_lay", "do_fetch", "STEPS", "do_step", "place_of", "can_go", "in_pairs"]
def names4 : List PySem.Str := ["Run", "MOST_WORKS", "TOP_LONGEST", "TOP_MOST", "check_works", "check_names", "check_size", "check_limit", "copied", "Shop", "_law_source", "_law_draw"]
def names5 : List PySem.Str := ["_law_pick", "_law_same", "_law_told", "_law_wish", "_law_ask", "_law_play", "_law_stand", "_law_lets", "_law_changed", "_law_do", "_law_begun", "_law_can"]
def names6 : List PySem.Str := ["_law_go", "_law_outcome", "_law_shop", "_law_worked", "_law_value", "_law_work"]
def names : List PySem.Str := names0 ++ names1 ++ names2 ++ names3 ++ names4 ++ names5 ++ names6

/-- a def's keyword-only default, where it is an object -/
def kwAt (p : PySem.Str × Option PySem.Str) (x : PySem.Str) (K : Frag) : Addr := match K.lookup (He.fAd K p) with
  | some ⟨_, _, .func fd, _⟩ => (match fd.kwdefaults with
    | .ref D => (match nsIn K D x with
      | some (some (.ref a)) => a
      | _ => 0)
    | _ => 0)
  | _ => 0
/-- an own error's class -/
def oexB (K : Frag) (C : Addr) : Bool := match K.lookup C with
  | some ⟨.type "type", _, .cls cd, sl⟩ => (match cd.mro, sl.toList with
    | .ref C' :: bm, [_, _, _, _, some (.builtin n), _] => C' == C && (n == "ValueError.__new__" && (!cd.hasDel && (cd.hasDict && PySem.HandSPX.refsVE bm)))
    | _, _ => false)
  | _ => false
theorem oexB_ok {K : Frag} {C : Addr} (q : oexB K C = true) : ∃ nm q N bs bm sn sub ab col dd k0 k1 k2 k3 k5, K.lookup C = some (excClassObj nm q C N bs bm true sn sub ab col dd k0 k1 k2 k3 k5 "ValueError.__new__") ∧ PySem.HandSPX.refsVE bm = true := by
  unfold oexB at q
  split at q
  · rename_i dict cdat slots lk
    split at q
    · rename_i self rest a0 a1 a2 a3 newer a5 eMro eSl
      obtain ⟨q1, q⟩ := He.ba q
      obtain ⟨q2, q⟩ := He.ba q
      obtain ⟨q3, q⟩ := He.ba q
      obtain ⟨q4, q5⟩ := He.ba q
      obtain ⟨f1, f2, f3, f4, f5, f6, f7, f8, f9, f10, f11⟩ := cdat
      have i1 := eq_of_beq q1
      have i2 := eq_of_beq q2
      have i3 : f11 = false := by
        cases f11 with
        | false => rfl
        | true => cases q3
      have i4 : f6 = true := q4
      subst i1 i2 i3 i4
      obtain ⟨ls⟩ := slots
      obtain rfl : ls = _ := eSl
      obtain rfl : f3 = _ := eMro
      exact ⟨_, _, _, _, rest, _, _, _, _, dict, a0, a1, a2, a3, a5, lk, q5⟩
    · cases q
  · cases q
/-- an own error of the one field f -/
def errB (K : Frag) (x f : PySem.Str) : Bool := oexB K (He.ga K x) && (decide (findIn K (.ref (He.ga K x)) "__setattr__" = some (some (.builtin "object.__setattr__"))) && (decide (subIn K (.ref (He.ga K x)) (.type "BaseException") = some true) && (decide (typeIn K (.ref (He.ga K x)) = some (.type "type")) && (keepIn K (.ref (He.ga K x)) &&
  (decide (findIn K (.ref (He.ga K x)) "__getattribute__" = some (some (.builtin "BaseException.__getattribute__"))) && (decide (findIn K (.ref (He.ga K x)) "__getattr__" = some none) && (hasDictIn K (He.ga K x) && (decide (findIn K (.ref (He.ga K x)) "__class__" = some (some (.builtin "object.__class__"))) &&
  (decide (specialIn K (.builtin "object.__class__") "__get__" = some (some (.builtin "getset_descriptor.__get__"))) && (decide (takesIn K (.builtin "object.__class__") = some true) && (decide (mroIn K (He.ga K x) (.type "object") = some true) && (decide (findIn K (.ref (He.ga K x)) f = some none) &&
  (decide (findIn K (.ref (He.ga K x)) "__init__" = some (some (.ref (He.fAd K (x, some "__init__"))))) && decide (typeIn K (.ref (He.fAd K (x, some "__init__"))) = some (.type "function")))))))))))))))
theorem errB_ok {K : Frag} {x f : PySem.Str} {fd : FuncData} (h : errB K x f = true) (bp : ∀ (s : Shared) (u v : Value), BindsTo s fd ⟨[u, v], []⟩ [("self", u), (f, v)]) (bk : ∀ (s : Shared) (u v : Value), BindsTo s fd ⟨[u], [(f, v)]⟩ [("self", u), (f, v)]) :
    ErrC K (He.ga K x) (He.fAd K (x, some "__init__")) f fd := by
  obtain ⟨h1, h⟩ := He.ba h
  obtain ⟨h2, h⟩ := He.ba h
  obtain ⟨h3, h⟩ := He.ba h
  obtain ⟨h4, h⟩ := He.ba h
  obtain ⟨h5, h⟩ := He.ba h
  obtain ⟨h6, h⟩ := He.ba h
  obtain ⟨h7, h⟩ := He.ba h
  obtain ⟨h8, h⟩ := He.ba h
  obtain ⟨h9, h⟩ := He.ba h
  obtain ⟨h10, h⟩ := He.ba h
  obtain ⟨h11, h⟩ := He.ba h
  obtain ⟨h12, h⟩ := He.ba h
  obtain ⟨h13, h⟩ := He.ba h
  obtain ⟨h14, h15⟩ := He.ba h
  exact ⟨⟨oexB_ok h1, of_decide_eq_true h2, of_decide_eq_true h3, of_decide_eq_true h4, h5⟩, ⟨of_decide_eq_true h6, of_decide_eq_true h7, of_decide_eq_true h3, h8, of_decide_eq_true h9, of_decide_eq_true h10, of_decide_eq_true h11, of_decide_eq_true h12⟩,
    ⟨of_decide_eq_true h6, of_decide_eq_true h7, of_decide_eq_true h3, h8⟩, of_decide_eq_true h13, of_decide_eq_true h14, of_decide_eq_true h15, bp, bk⟩
/-- Held -/
def heldB (K : Frag) : Bool := excIn K (He.ga K "Held") [.type "Exception", .type "BaseException", .type "object"] "Exception.__new__" && (keepIn K (.ref (He.ga K "Held")) && (decide (subIn K (.ref (He.ga K "Held")) (.type "BaseException") = some true) && decide (typeIn K (.ref (He.ga K "Held")) = some (.type "type"))))
/-- an empty tuple -/
def noneB (K : Frag) (a : Addr) : Bool := match K.lookup a with
  | some ⟨.type c, _, .seq its _, _⟩ => decide (c = "tuple") && (decide (its.size ≤ sizeLine) && He.relAll [] its.toList)
  | _ => false
theorem noneB_ok {K : Frag} {a : Addr} (h : noneB K a = true) (H : Hp) : SqT K H a [] := by
  unfold noneB at h
  split at h
  · rename_i c od its n sl lk
    obtain ⟨h1, h2⟩ := He.ba h
    obtain ⟨h3, h4⟩ := He.ba h2
    exact .inr ⟨_, its, n, lk, congrArg Value.type (of_decide_eq_true h1), rfl, of_decide_eq_true h3, He.relAll_ok h4⟩
  · cases h
def fa0 : List He.Fa := [.free "len", .free "int", .free "bool", .free "str", .free "list", .free "tuple", .free "dict", .free "isinstance", .free "all", .free "zip", .free "range", .free "sorted", .free "enumerate", .free "set", .free "min", .free "any", .int "LONGEST_WORD" 8, .int "MOST_WORKS" 4, .int "TOP_LONGEST" 40, .int "TOP_MOST" 2000]
def fa1 : List He.Fa := [.glo "is_whole", .glo "is_word", .glo "is_value", .glo "same", .glo "check_value", .glo "check_thing", .glo "check_going", .glo "check_call", .glo "halt", .glo "ask", .glo "Hand", .glo "Place", .glo "returned", .glo "come", .glo "Things", .glo "first_things", .glo "things_again", .glo "has_room", .glo "need_not_wait", .glo "do_lay"]
def fa2 : List He.Fa := [.glo "do_fetch", .glo "do_step", .glo "place_of", .glo "can_go", .glo "in_pairs", .glo "Run", .glo "check_works", .glo "check_names", .glo "check_size", .glo "check_limit", .glo "copied", .glo "Shop", .glo "_law_source", .glo "_law_draw", .glo "_law_pick", .glo "_law_same", .glo "_law_told", .glo "_law_wish", .glo "_law_ask", .glo "_law_play"]
def fa3 : List He.Fa := [.glo "_law_stand", .glo "_law_lets", .glo "_law_changed", .glo "_law_do", .glo "_law_begun", .glo "_law_can", .glo "_law_go", .glo "_law_outcome", .glo "_law_shop", .glo "_law_worked", .glo "_law_value", .glo "_law_work", .glo "law", .glo "BadWorks", .glo "BadValue", .glo "BadSize", .glo "BadLimit", .glo "NoThing", .glo "NoWork", .glo "CanNot"]
def fa4 : List He.Fa := [.glo "Held", .glo "STEPS", .cls "Hand", .mkr "Hand", .noat "Hand" "me", .noat "Hand" "shop", .noat "Hand" "answers", .noat "Hand" "asked", .noat "Hand" "mine", .noat "Hand" "words", .noat "Hand" "pending", .noat "Hand" "end", .noat "Hand" "halted", .cls "Place", .mkr "Place", .noat "Place" "answers", .noat "Place" "pending", .noat "Place" "end", .noat "Place" "words", .cls "Things"]
def fa5 : List He.Fa := [.mkr "Things", .noat "Things" "cells", .noat "Things" "holders", .noat "Things" "rows", .noat "Things" "sizes", .cls "Run", .mkr "Run", .noat "Run" "shop", .noat "Run" "things", .noat "Run" "places", .noat "Run" "done", .cls "Shop", .mkr "Shop", .noat "Shop" "works", .noat "Shop" "cells", .noat "Shop" "locks", .noat "Shop" "belts", .noat "Shop" "many", .noat "Shop" "longest", .noat "Shop" "most"]
def fa6 : List He.Fa := [.meth "Hand" "lay", .meth "Hand" "fetch", .meth "Run" "can", .meth "Run" "go", .meth "Run" "ends", .meth "Run" "belt", .meth "Run" "outcome", .meth "Run" "is_over", .meth "Run" "stands", .exm "Held" "Held" true, .exm "NoThing" "NoThing" true, .exm "Held" "NoThing" false]
def fa : List He.Fa := fa0 ++ (fa1 ++ (fa2 ++ (fa3 ++ (fa4 ++ (fa5 ++ (fa6))))))
def fn0 : List He.DefD := [⟨("is_whole", none), "is_whole", "is_whole", defArgs (top 15), defBody (top 15), defScope (top 15), [], []⟩,
  ⟨("is_word", none), "is_word", "is_word", defArgs (top 16), defBody (top 16), defScope (top 16), [], []⟩,
  ⟨("is_value", none), "is_value", "is_value", defArgs (top 17), defBody (top 17), defScope (top 17), [], []⟩,
  ⟨("same", none), "same", "same", defArgs (top 18), defBody (top 18), defScope (top 18), [], []⟩,
  ⟨("check_value", none), "check_value", "check_value", defArgs (top 19), defBody (top 19), defScope (top 19), [], []⟩,
  ⟨("check_thing", none), "check_thing", "check_thing", defArgs (top 20), defBody (top 20), defScope (top 20), [], []⟩,
  ⟨("check_going", none), "check_going", "check_going", defArgs (top 22), defBody (top 22), defScope (top 22), [], []⟩,
  ⟨("check_call", none), "check_call", "check_call", defArgs (top 23), defBody (top 23), defScope (top 23), [], []⟩,
  ⟨("halt", none), "halt", "halt", defArgs (top 24), defBody (top 24), defScope (top 24), [], []⟩,
  ⟨("ask", none), "ask", "ask", defArgs (top 25), defBody (top 25), defScope (top 25), [], []⟩]
def fn1 : List He.DefD := [⟨("Hand", some "__init__"), "__init__", "Hand.__init__", defArgs (inClass (top 26) 0), defBody (inClass (top 26) 0), defScope (inClass (top 26) 0), [], []⟩,
  ⟨("Hand", some "lay"), "lay", "Hand.lay", defArgs (inClass (top 26) 9), defBody (inClass (top 26) 9), defScope (inClass (top 26) 9), [], []⟩,
  ⟨("Hand", some "fetch"), "fetch", "Hand.fetch", defArgs (inClass (top 26) 10), defBody (inClass (top 26) 10), defScope (inClass (top 26) 10), [], []⟩,
  ⟨("Place", some "__init__"), "__init__", "Place.__init__", defArgs (inClass (top 28) 0), defBody (inClass (top 28) 0), defScope (inClass (top 28) 0), [], []⟩,
  ⟨("returned", none), "returned", "returned", defArgs (top 29), defBody (top 29), defScope (top 29), [], []⟩,
  ⟨("come", none), "come", "come", defArgs (top 30), defBody (top 30), defScope (top 30), [], []⟩,
  ⟨("Things", some "__init__"), "__init__", "Things.__init__", defArgs (inClass (top 32) 0), defBody (inClass (top 32) 0), defScope (inClass (top 32) 0), [], []⟩,
  ⟨("first_things", none), "first_things", "first_things", defArgs (top 33), defBody (top 33), defScope (top 33), [], []⟩,
  ⟨("things_again", none), "things_again", "things_again", defArgs (top 34), defBody (top 34), defScope (top 34), [], []⟩,
  ⟨("has_room", none), "has_room", "has_room", defArgs (top 35), defBody (top 35), defScope (top 35), [], []⟩]
def fn2 : List He.DefD := [⟨("need_not_wait", none), "need_not_wait", "need_not_wait", defArgs (top 36), defBody (top 36), defScope (top 36), [], []⟩,
  ⟨("do_lay", none), "do_lay", "do_lay", defArgs (top 45), defBody (top 45), defScope (top 45), [], []⟩,
  ⟨("do_fetch", none), "do_fetch", "do_fetch", defArgs (top 46), defBody (top 46), defScope (top 46), [], []⟩,
  ⟨("do_step", none), "do_step", "do_step", defArgs (top 48), defBody (top 48), defScope (top 48), [], []⟩,
  ⟨("place_of", none), "place_of", "place_of", defArgs (top 50), defBody (top 50), defScope (top 50), [], []⟩,
  ⟨("can_go", none), "can_go", "can_go", defArgs (top 51), defBody (top 51), defScope (top 51), [], []⟩,
  ⟨("in_pairs", none), "in_pairs", "in_pairs", defArgs (top 52), defBody (top 52), defScope (top 52), [], []⟩,
  ⟨("Run", some "__init__"), "__init__", "Run.__init__", defArgs (inClass (top 53) 0), defBody (inClass (top 53) 0), defScope (inClass (top 53) 0), [], []⟩,
  ⟨("Run", some "can"), "can", "Run.can", defArgs (inClass (top 53) 2), defBody (inClass (top 53) 2), defScope (inClass (top 53) 2), [], []⟩,
  ⟨("Run", some "go"), "go", "Run.go", defArgs (inClass (top 53) 3), defBody (inClass (top 53) 3), defScope (inClass (top 53) 3), [], []⟩]
def fn3 : List He.DefD := [⟨("Run", some "ends"), "ends", "Run.ends", defArgs (inClass (top 53) 6), defBody (inClass (top 53) 6), defScope (inClass (top 53) 6), [], []⟩,
  ⟨("Run", some "belt"), "belt", "Run.belt", defArgs (inClass (top 53) 9), defBody (inClass (top 53) 9), defScope (inClass (top 53) 9), [], []⟩,
  ⟨("Run", some "outcome"), "outcome", "Run.outcome", defArgs (inClass (top 53) 11), defBody (inClass (top 53) 11), defScope (inClass (top 53) 11), [], []⟩,
  ⟨("Run", some "is_over"), "is_over", "Run.is_over", defArgs (inClass (top 53) 12), defBody (inClass (top 53) 12), defScope (inClass (top 53) 12), [], []⟩,
  ⟨("Run", some "stands"), "stands", "Run.stands", defArgs (inClass (top 53) 13), defBody (inClass (top 53) 13), defScope (inClass (top 53) 13), [], []⟩,
  ⟨("check_works", none), "check_works", "check_works", defArgs (top 58), defBody (top 58), defScope (top 58), [], []⟩,
  ⟨("check_names", none), "check_names", "check_names", defArgs (top 59), defBody (top 59), defScope (top 59), [], []⟩,
  ⟨("check_size", none), "check_size", "check_size", defArgs (top 60), defBody (top 60), defScope (top 60), [], []⟩,
  ⟨("check_limit", none), "check_limit", "check_limit", defArgs (top 61), defBody (top 61), defScope (top 61), [], []⟩,
  ⟨("copied", none), "copied", "copied", defArgs (top 62), defBody (top 62), defScope (top 62), [], []⟩]
def fn4 : List He.DefD := [⟨("Shop", some "__init__"), "__init__", "Shop.__init__", defArgs (inClass (top 63) 0), defBody (inClass (top 63) 0), defScope (inClass (top 63) 0), [], [("cells", .non), ("locks", .adr (kwAt ("Shop", some "__init__") "locks")), ("belts", .non), ("longest", .int 24), ("most", .int 400)]⟩,
  ⟨("_law_source", none), "_law_source", "_law_source", defArgs (top 65), defBody (top 65), defScope (top 65), [], []⟩,
  ⟨("_law_draw", none), "_law_draw", "_law_draw", defArgs (top 66), defBody (top 66), defScope (top 66), [], []⟩,
  ⟨("_law_pick", none), "_law_pick", "_law_pick", defArgs (top 67), defBody (top 67), defScope (top 67), [], []⟩,
  ⟨("_law_same", none), "_law_same", "_law_same", defArgs (top 68), defBody (top 68), defScope (top 68), [], []⟩,
  ⟨("_law_told", none), "_law_told", "_law_told", defArgs (top 69), defBody (top 69), defScope (top 69), [], []⟩,
  ⟨("_law_wish", none), "_law_wish", "_law_wish", defArgs (top 70), defBody (top 70), defScope (top 70), [], []⟩,
  ⟨("_law_ask", none), "_law_ask", "_law_ask", defArgs (top 71), defBody (top 71), defScope (top 71), [], []⟩,
  ⟨("_law_play", none), "_law_play", "_law_play", defArgs (top 72), defBody (top 72), defScope (top 72), [], []⟩,
  ⟨("_law_stand", none), "_law_stand", "_law_stand", defArgs (top 73), defBody (top 73), defScope (top 73), [], []⟩]
def fn5 : List He.DefD := [⟨("_law_lets", none), "_law_lets", "_law_lets", defArgs (top 74), defBody (top 74), defScope (top 74), [], []⟩,
  ⟨("_law_changed", none), "_law_changed", "_law_changed", defArgs (top 75), defBody (top 75), defScope (top 75), [], []⟩,
  ⟨("_law_do", none), "_law_do", "_law_do", defArgs (top 76), defBody (top 76), defScope (top 76), [], []⟩,
  ⟨("_law_begun", none), "_law_begun", "_law_begun", defArgs (top 77), defBody (top 77), defScope (top 77), [], []⟩,
  ⟨("_law_can", none), "_law_can", "_law_can", defArgs (top 78), defBody (top 78), defScope (top 78), [], []⟩,
  ⟨("_law_go", none), "_law_go", "_law_go", defArgs (top 79), defBody (top 79), defScope (top 79), [], []⟩,
  ⟨("_law_outcome", none), "_law_outcome", "_law_outcome", defArgs (top 80), defBody (top 80), defScope (top 80), [], []⟩,
  ⟨("_law_shop", none), "_law_shop", "_law_shop", defArgs (top 81), defBody (top 81), defScope (top 81), [], []⟩,
  ⟨("_law_worked", none), "_law_worked", "_law_worked", defArgs (top 82), defBody (top 82), defScope (top 82), [], []⟩,
  ⟨("_law_value", none), "_law_value", "_law_value", defArgs (top 83), defBody (top 83), defScope (top 83), [], []⟩]
def fn6 : List He.DefD := [⟨("_law_work", none), "_law_work", "_law_work", defArgs (top 84), defBody (top 84), defScope (top 84), [], []⟩,
  ⟨("law", none), "law", "law", defArgs (top 85), defBody (top 85), defScope (top 85), [], []⟩,
  ⟨("BadWorks", some "__init__"), "__init__", "BadWorks.__init__", defArgs (inClass (top 3) 0), defBody (inClass (top 3) 0), defScope (inClass (top 3) 0), [], []⟩,
  ⟨("BadValue", some "__init__"), "__init__", "BadValue.__init__", defArgs (inClass (top 5) 0), defBody (inClass (top 5) 0), defScope (inClass (top 5) 0), [], []⟩,
  ⟨("BadSize", some "__init__"), "__init__", "BadSize.__init__", defArgs (inClass (top 6) 0), defBody (inClass (top 6) 0), defScope (inClass (top 6) 0), [], []⟩,
  ⟨("BadLimit", some "__init__"), "__init__", "BadLimit.__init__", defArgs (inClass (top 7) 0), defBody (inClass (top 7) 0), defScope (inClass (top 7) 0), [], []⟩,
  ⟨("NoThing", some "__init__"), "__init__", "NoThing.__init__", defArgs (inClass (top 8) 0), defBody (inClass (top 8) 0), defScope (inClass (top 8) 0), [], []⟩,
  ⟨("NoWork", some "__init__"), "__init__", "NoWork.__init__", defArgs (inClass (top 10) 0), defBody (inClass (top 10) 0), defScope (inClass (top 10) 0), [], []⟩,
  ⟨("CanNot", some "__init__"), "__init__", "CanNot.__init__", defArgs (inClass (top 11) 0), defBody (inClass (top 11) 0), defScope (inClass (top 11) 0), [], []⟩]
def fn : List He.DefD := fn0 ++ (fn1 ++ (fn2 ++ (fn3 ++ (fn4 ++ (fn5 ++ (fn6))))))
def ts : List He.Tab := [(fun K => He.ga K "STEPS", ["look", "put", "swap", "trade", "until", "take", "give", "reach", "lay", "fetch", "rest"])]
def tf : List He.Defn := [("_law_worked", none)]
def ex (K : Frag) : Bool := errB K "BadWorks" "count" && (errB K "BadValue" "value" && (errB K "BadSize" "size" && (errB K "BadLimit" "limit" && (errB K "NoThing" "name" && (errB K "NoWork" "number" && (errB K "CanNot" "number" && (heldB K && (noneB K (kwAt ("Shop", some "__init__") "locks" K) && (He.valsB K (He.ga K "STEPS") [("lay", .glo "do_lay"), ("fetch", .glo "do_fetch")] && (decide (He.ga K "do_lay" ≠ He.ga K "do_fetch")))))))))))
/-- the def's table of nested code stands in the heap, empty, and its code object names it -/
def tabOk (look : Addr → Option Obj) (K : Frag) (p : He.Defn) : Bool := codeHdIn K (He.cT K p).1 (He.cT K p).2 && (look (He.cT K p).2).any He.emptyTab
theorem tabOk_says {h : Heap} {as : List Addr} {p : He.Defn} (e : tabOk h.get? (He.frT h.get? as) p = true) :
    codeHdIn (He.frT h.get? as) (He.cT (He.frT h.get? as) p).1 (He.cT (He.frT h.get? as) p).2 = true ∧ (He.frT h.get? as).lookup (He.cT (He.frT h.get? as) p).2 = none ∧ h.get? (He.cT (He.frT h.get? as) p).2 = some { cls := .none, data := .fields #[] } := by
  have both := Bool.and_eq_true_iff.mp e
  refine ⟨both.1, ?_⟩
  have any := both.2
  revert any
  generalize (He.cT (He.frT h.get? as) p).2 = P
  intro any
  match q : h.get? P, any with
  | some o, any => exact ⟨He.frT_none q any, congrArg some (He.emptyTab_eq any)⟩
  | none, any => cases any
/-- what is told of the heap's objects below N: the facts, the defs, the dicts; one Bool; the tables -/
def obsR (N : Nat) (fa : List He.Fa) (fn : List He.DefD) (ts : List He.Tab) (tf : List He.Defn) (ex : Frag → Bool) (look : Addr → Option Obj) : He.AlT × Bool × Bool := (He.obsT fa fn ts (He.frT look (List.range N)), ex (He.frT look (List.range N)), tf.all (tabOk look (He.frT look (List.range N))))
def hookR (N : Nat) (fa : List He.Fa) (fn : List He.DefD) (ts : List He.Tab) (tf : List He.Defn) (ex : Frag → Bool) : Hook :=
  { α := He.AlT × Bool × Bool, obs := fun s => obsR N fa fn ts tf ex s.heap.get?, val := fun w => (He.valT fn ts w, true, true), says := fun w h => ∃ K : Frag, K.In h ∧ He.SaysX fa fn ts tf ex w h K,
    of := fun w s e => by
      have e1 := congrArg Prod.fst e
      have e2 := congrArg (fun z => z.2.1) e
      have e3 : tf.all (tabOk s.heap.get? (He.frT s.heap.get? (List.range N))) = true := congrArg (fun z => z.2.2) e
      have each := fun p hp => tabOk_says (List.all_eq_true.mp e3 p hp)
      exact ⟨_, He.frT_in, e1, e2, fun p hp => (each p hp).1, fun p hp => (each p hp).2.1, fun p hp => (each p hp).2.2⟩,
    keeps := fun w h1 h2 told later => by
      obtain ⟨K, inK, c⟩ := told
      exact ⟨K, inK.keeps later, c.t, c.more, c.hd, c.out, fun p hp => later _ _ (c.empty p hp)⟩ }
theorem obsR_eq {N : Nat} {fa : List He.Fa} {fn : List He.DefD} {ts : List He.Tab} {tf : List He.Defn} {ex : Frag → Bool} {look : Addr → Option Obj} {s : Shared} (h : ∀ a, look a = s.heap.get? a) : obsR N fa fn ts tf ex look = (hookR N fa fn ts tf ex).obs s := by
  obtain rfl : look = s.heap.get? := funext h
  rfl
abbrev hk : Hook := hookR 900 fa fn ts tf ex
noncomputable def ob (s : SharedT) : He.AlT × Bool × Bool := obsR 900 fa fn ts tf ex (HandSHeadRun.getT s)
theorem ob_eq (s : SharedT) : ob s = hk.obs s.abs := obsR_eq (HandSHeadRun.getT_eq s)
theorem runF (w : World) : HandSHeadRun.RunEq R qv hk ob 40000 names (w.withFollow "special-get-raises" false) := by
  intro os
  kernel_rfl
theorem runT (w : World) : HandSHeadRun.RunEq R qv hk ob 40000 names (w.withFollow "special-get-raises" true) := by
  intro os
  kernel_rfl
theorem run (w : World) : HandSHeadRun.RunEq R qv hk ob 40000 names w := byRow2 "special-get-raises" (P := fun w => HandSHeadRun.RunEq R qv hk ob 40000 names w) runF runT w
end TWHead
namespace TW
open PySem PySem.Spec PyProof.Rows L2
theorem hF_n0_1 : ¬ (("me" : Str) = "shop") := by decide +kernel
theorem hF_n0_2 : ¬ (("me" : Str) = "answers") := by decide +kernel
theorem hF_n0_3 : ¬ (("me" : Str) = "asked") := by decide +kernel
theorem hF_n0_4 : ¬ (("me" : Str) = "mine") := by decide +kernel
theorem hF_n0_5 : ¬ (("me" : Str) = "words") := by decide +kernel
theorem hF_n0_6 : ¬ (("me" : Str) = "pending") := by decide +kernel
theorem hF_n0_7 : ¬ (("me" : Str) = "end") := by decide +kernel
theorem hF_n0_8 : ¬ (("me" : Str) = "halted") := by decide +kernel
theorem hF_n1_0 : ¬ (("shop" : Str) = "me") := by decide +kernel
theorem hF_n1_2 : ¬ (("shop" : Str) = "answers") := by decide +kernel
theorem hF_n1_3 : ¬ (("shop" : Str) = "asked") := by decide +kernel
theorem hF_n1_4 : ¬ (("shop" : Str) = "mine") := by decide +kernel
theorem hF_n1_5 : ¬ (("shop" : Str) = "words") := by decide +kernel
theorem hF_n1_6 : ¬ (("shop" : Str) = "pending") := by decide +kernel
theorem hF_n1_7 : ¬ (("shop" : Str) = "end") := by decide +kernel
theorem hF_n1_8 : ¬ (("shop" : Str) = "halted") := by decide +kernel
theorem hF_n2_0 : ¬ (("answers" : Str) = "me") := by decide +kernel
theorem hF_n2_1 : ¬ (("answers" : Str) = "shop") := by decide +kernel
theorem hF_n2_3 : ¬ (("answers" : Str) = "asked") := by decide +kernel
theorem hF_n2_4 : ¬ (("answers" : Str) = "mine") := by decide +kernel
theorem hF_n2_5 : ¬ (("answers" : Str) = "words") := by decide +kernel
theorem hF_n2_6 : ¬ (("answers" : Str) = "pending") := by decide +kernel
theorem hF_n2_7 : ¬ (("answers" : Str) = "end") := by decide +kernel
theorem hF_n2_8 : ¬ (("answers" : Str) = "halted") := by decide +kernel
theorem hF_n3_0 : ¬ (("asked" : Str) = "me") := by decide +kernel
theorem hF_n3_1 : ¬ (("asked" : Str) = "shop") := by decide +kernel
theorem hF_n3_2 : ¬ (("asked" : Str) = "answers") := by decide +kernel
theorem hF_n3_4 : ¬ (("asked" : Str) = "mine") := by decide +kernel
theorem hF_n3_5 : ¬ (("asked" : Str) = "words") := by decide +kernel
theorem hF_n3_6 : ¬ (("asked" : Str) = "pending") := by decide +kernel
theorem hF_n3_7 : ¬ (("asked" : Str) = "end") := by decide +kernel
theorem hF_n3_8 : ¬ (("asked" : Str) = "halted") := by decide +kernel
theorem hF_n4_0 : ¬ (("mine" : Str) = "me") := by decide +kernel
theorem hF_n4_1 : ¬ (("mine" : Str) = "shop") := by decide +kernel
theorem hF_n4_2 : ¬ (("mine" : Str) = "answers") := by decide +kernel
theorem hF_n4_3 : ¬ (("mine" : Str) = "asked") := by decide +kernel
theorem hF_n4_5 : ¬ (("mine" : Str) = "words") := by decide +kernel
theorem hF_n4_6 : ¬ (("mine" : Str) = "pending") := by decide +kernel
theorem hF_n4_7 : ¬ (("mine" : Str) = "end") := by decide +kernel
theorem hF_n4_8 : ¬ (("mine" : Str) = "halted") := by decide +kernel
theorem hF_n5_0 : ¬ (("words" : Str) = "me") := by decide +kernel
theorem hF_n5_1 : ¬ (("words" : Str) = "shop") := by decide +kernel
theorem hF_n5_2 : ¬ (("words" : Str) = "answers") := by decide +kernel
theorem hF_n5_3 : ¬ (("words" : Str) = "asked") := by decide +kernel
theorem hF_n5_4 : ¬ (("words" : Str) = "mine") := by decide +kernel
theorem hF_n5_6 : ¬ (("words" : Str) = "pending") := by decide +kernel
theorem hF_n5_7 : ¬ (("words" : Str) = "end") := by decide +kernel
theorem hF_n5_8 : ¬ (("words" : Str) = "halted") := by decide +kernel
theorem hF_n6_0 : ¬ (("pending" : Str) = "me") := by decide +kernel
theorem hF_n6_1 : ¬ (("pending" : Str) = "shop") := by decide +kernel
theorem hF_n6_2 : ¬ (("pending" : Str) = "answers") := by decide +kernel
theorem hF_n6_3 : ¬ (("pending" : Str) = "asked") := by decide +kernel
theorem hF_n6_4 : ¬ (("pending" : Str) = "mine") := by decide +kernel
theorem hF_n6_5 : ¬ (("pending" : Str) = "words") := by decide +kernel
theorem hF_n6_7 : ¬ (("pending" : Str) = "end") := by decide +kernel
theorem hF_n6_8 : ¬ (("pending" : Str) = "halted") := by decide +kernel
theorem hF_n7_0 : ¬ (("end" : Str) = "me") := by decide +kernel
theorem hF_n7_1 : ¬ (("end" : Str) = "shop") := by decide +kernel
theorem hF_n7_2 : ¬ (("end" : Str) = "answers") := by decide +kernel
theorem hF_n7_3 : ¬ (("end" : Str) = "asked") := by decide +kernel
theorem hF_n7_4 : ¬ (("end" : Str) = "mine") := by decide +kernel
theorem hF_n7_5 : ¬ (("end" : Str) = "words") := by decide +kernel
theorem hF_n7_6 : ¬ (("end" : Str) = "pending") := by decide +kernel
theorem hF_n7_8 : ¬ (("end" : Str) = "halted") := by decide +kernel
theorem hF_n8_0 : ¬ (("halted" : Str) = "me") := by decide +kernel
theorem hF_n8_1 : ¬ (("halted" : Str) = "shop") := by decide +kernel
theorem hF_n8_2 : ¬ (("halted" : Str) = "answers") := by decide +kernel
theorem hF_n8_3 : ¬ (("halted" : Str) = "asked") := by decide +kernel
theorem hF_n8_4 : ¬ (("halted" : Str) = "mine") := by decide +kernel
theorem hF_n8_5 : ¬ (("halted" : Str) = "words") := by decide +kernel
theorem hF_n8_6 : ¬ (("halted" : Str) = "pending") := by decide +kernel
theorem hF_n8_7 : ¬ (("halted" : Str) = "end") := by decide +kernel
/-- the attributes of a hF, in the order in which __init__ stores them -/
def hF (v0 v1 v2 v3 v4 v5 v6 v7 v8 : V) : List (Str × V) := [("me", v0), ("shop", v1), ("answers", v2), ("asked", v3), ("mine", v4), ("words", v5), ("pending", v6), ("end", v7), ("halted", v8)]
theorem hF_get0 {v0 v1 v2 v3 v4 v5 v6 v7 v8 : V} : (hF v0 v1 v2 v3 v4 v5 v6 v7 v8).lookup ("me" : Str) = some v0 := by
  unfold hF
  rw [lookup_put, if_pos rfl]
theorem hF_put0 {v0 v1 v2 v3 v4 v5 v6 v7 v8 z : V} : putF "me" z (hF v0 v1 v2 v3 v4 v5 v6 v7 v8) = hF z v1 v2 v3 v4 v5 v6 v7 v8 := by
  unfold hF
  simp only [putF, if_true]
theorem hF_get1 {v0 v1 v2 v3 v4 v5 v6 v7 v8 : V} : (hF v0 v1 v2 v3 v4 v5 v6 v7 v8).lookup ("shop" : Str) = some v1 := by
  unfold hF
  rw [lookup_put, if_neg hF_n1_0, lookup_put, if_pos rfl]
theorem hF_put1 {v0 v1 v2 v3 v4 v5 v6 v7 v8 z : V} : putF "shop" z (hF v0 v1 v2 v3 v4 v5 v6 v7 v8) = hF v0 z v2 v3 v4 v5 v6 v7 v8 := by
  unfold hF
  simp only [putF, if_neg hF_n0_1, if_true]
theorem hF_get2 {v0 v1 v2 v3 v4 v5 v6 v7 v8 : V} : (hF v0 v1 v2 v3 v4 v5 v6 v7 v8).lookup ("answers" : Str) = some v2 := by
  unfold hF
  rw [lookup_put, if_neg hF_n2_0, lookup_put, if_neg hF_n2_1, lookup_put, if_pos rfl]
theorem hF_put2 {v0 v1 v2 v3 v4 v5 v6 v7 v8 z : V} : putF "answers" z (hF v0 v1 v2 v3 v4 v5 v6 v7 v8) = hF v0 v1 z v3 v4 v5 v6 v7 v8 := by
  unfold hF
  simp only [putF, if_neg hF_n0_2, if_neg hF_n1_2, if_true]
theorem hF_get3 {v0 v1 v2 v3 v4 v5 v6 v7 v8 : V} : (hF v0 v1 v2 v3 v4 v5 v6 v7 v8).lookup ("asked" : Str) = some v3 := by
  unfold hF
  rw [lookup_put, if_neg hF_n3_0, lookup_put, if_neg hF_n3_1, lookup_put, if_neg hF_n3_2, lookup_put, if_pos rfl]
theorem hF_put3 {v0 v1 v2 v3 v4 v5 v6 v7 v8 z : V} : putF "asked" z (hF v0 v1 v2 v3 v4 v5 v6 v7 v8) = hF v0 v1 v2 z v4 v5 v6 v7 v8 := by
  unfold hF
  simp only [putF, if_neg hF_n0_3, if_neg hF_n1_3, if_neg hF_n2_3, if_true]
theorem hF_get4 {v0 v1 v2 v3 v4 v5 v6 v7 v8 : V} : (hF v0 v1 v2 v3 v4 v5 v6 v7 v8).lookup ("mine" : Str) = some v4 := by
  unfold hF
  rw [lookup_put, if_neg hF_n4_0, lookup_put, if_neg hF_n4_1, lookup_put, if_neg hF_n4_2, lookup_put, if_neg hF_n4_3, lookup_put, if_pos rfl]
theorem hF_put4 {v0 v1 v2 v3 v4 v5 v6 v7 v8 z : V} : putF "mine" z (hF v0 v1 v2 v3 v4 v5 v6 v7 v8) = hF v0 v1 v2 v3 z v5 v6 v7 v8 := by
  unfold hF
  simp only [putF, if_neg hF_n0_4, if_neg hF_n1_4, if_neg hF_n2_4, if_neg hF_n3_4, if_true]
theorem hF_get5 {v0 v1 v2 v3 v4 v5 v6 v7 v8 : V} : (hF v0 v1 v2 v3 v4 v5 v6 v7 v8).lookup ("words" : Str) = some v5 := by
  unfold hF
  rw [lookup_put, if_neg hF_n5_0, lookup_put, if_neg hF_n5_1, lookup_put, if_neg hF_n5_2, lookup_put, if_neg hF_n5_3, lookup_put, if_neg hF_n5_4, lookup_put, if_pos rfl]
theorem hF_put5 {v0 v1 v2 v3 v4 v5 v6 v7 v8 z : V} : putF "words" z (hF v0 v1 v2 v3 v4 v5 v6 v7 v8) = hF v0 v1 v2 v3 v4 z v6 v7 v8 := by
  unfold hF
  simp only [putF, if_neg hF_n0_5, if_neg hF_n1_5, if_neg hF_n2_5, if_neg hF_n3_5, if_neg hF_n4_5, if_true]
theorem hF_get6 {v0 v1 v2 v3 v4 v5 v6 v7 v8 : V} : (hF v0 v1 v2 v3 v4 v5 v6 v7 v8).lookup ("pending" : Str) = some v6 := by
  unfold hF
  rw [lookup_put, if_neg hF_n6_0, lookup_put, if_neg hF_n6_1, lookup_put, if_neg hF_n6_2, lookup_put, if_neg hF_n6_3, lookup_put, if_neg hF_n6_4, lookup_put, if_neg hF_n6_5, lookup_put, if_pos rfl]
theorem hF_put6 {v0 v1 v2 v3 v4 v5 v6 v7 v8 z : V} : putF "pending" z (hF v0 v1 v2 v3 v4 v5 v6 v7 v8) = hF v0 v1 v2 v3 v4 v5 z v7 v8 := by
  unfold hF
  simp only [putF, if_neg hF_n0_6, if_neg hF_n1_6, if_neg hF_n2_6, if_neg hF_n3_6, if_neg hF_n4_6, if_neg hF_n5_6, if_true]
theorem hF_get7 {v0 v1 v2 v3 v4 v5 v6 v7 v8 : V} : (hF v0 v1 v2 v3 v4 v5 v6 v7 v8).lookup ("end" : Str) = some v7 := by
  unfold hF
  rw [lookup_put, if_neg hF_n7_0, lookup_put, if_neg hF_n7_1, lookup_put, if_neg hF_n7_2, lookup_put, if_neg hF_n7_3, lookup_put, if_neg hF_n7_4, lookup_put, if_neg hF_n7_5, lookup_put, if_neg hF_n7_6, lookup_put, if_pos rfl]
theorem hF_put7 {v0 v1 v2 v3 v4 v5 v6 v7 v8 z : V} : putF "end" z (hF v0 v1 v2 v3 v4 v5 v6 v7 v8) = hF v0 v1 v2 v3 v4 v5 v6 z v8 := by
  unfold hF
  simp only [putF, if_neg hF_n0_7, if_neg hF_n1_7, if_neg hF_n2_7, if_neg hF_n3_7, if_neg hF_n4_7, if_neg hF_n5_7, if_neg hF_n6_7, if_true]
theorem hF_get8 {v0 v1 v2 v3 v4 v5 v6 v7 v8 : V} : (hF v0 v1 v2 v3 v4 v5 v6 v7 v8).lookup ("halted" : Str) = some v8 := by
  unfold hF
  rw [lookup_put, if_neg hF_n8_0, lookup_put, if_neg hF_n8_1, lookup_put, if_neg hF_n8_2, lookup_put, if_neg hF_n8_3, lookup_put, if_neg hF_n8_4, lookup_put, if_neg hF_n8_5, lookup_put, if_neg hF_n8_6, lookup_put, if_neg hF_n8_7, lookup_put, if_pos rfl]
theorem hF_put8 {v0 v1 v2 v3 v4 v5 v6 v7 v8 z : V} : putF "halted" z (hF v0 v1 v2 v3 v4 v5 v6 v7 v8) = hF v0 v1 v2 v3 v4 v5 v6 v7 z := by
  unfold hF
  simp only [putF, if_neg hF_n0_8, if_neg hF_n1_8, if_neg hF_n2_8, if_neg hF_n3_8, if_neg hF_n4_8, if_neg hF_n5_8, if_neg hF_n6_8, if_neg hF_n7_8, if_true]
theorem hF_make0 {v0 : V} : putF "me" v0 ([] : List (Str × V)) = ([("me", v0)] : List (Str × V)) := rfl
theorem hF_make1 {v0 v1 : V} : putF "shop" v1 ([("me", v0)] : List (Str × V)) = ([("me", v0), ("shop", v1)] : List (Str × V)) := by
  simp only [putF, if_neg hF_n0_1, if_true]
theorem hF_make2 {v0 v1 v2 : V} : putF "answers" v2 ([("me", v0), ("shop", v1)] : List (Str × V)) = ([("me", v0), ("shop", v1), ("answers", v2)] : List (Str × V)) := by
  simp only [putF, if_neg hF_n0_2, if_neg hF_n1_2, if_true]
theorem hF_make3 {v0 v1 v2 v3 : V} : putF "asked" v3 ([("me", v0), ("shop", v1), ("answers", v2)] : List (Str × V)) = ([("me", v0), ("shop", v1), ("answers", v2), ("asked", v3)] : List (Str × V)) := by
  simp only [putF, if_neg hF_n0_3, if_neg hF_n1_3, if_neg hF_n2_3, if_true]
theorem hF_make4 {v0 v1 v2 v3 v4 : V} : putF "mine" v4 ([("me", v0), ("shop", v1), ("answers", v2), ("asked", v3)] : List (Str × V)) = ([("me", v0), ("shop", v1), ("answers", v2), ("asked", v3), ("mine", v4)] : List (Str × V)) := by
  simp only [putF, if_neg hF_n0_4, if_neg hF_n1_4, if_neg hF_n2_4, if_neg hF_n3_4, if_true]
theorem hF_make5 {v0 v1 v2 v3 v4 v5 : V} : putF "words" v5 ([("me", v0), ("shop", v1), ("answers", v2), ("asked", v3), ("mine", v4)] : List (Str × V)) = ([("me", v0), ("shop", v1), ("answers", v2), ("asked", v3), ("mine", v4), ("words", v5)] : List (Str × V)) := by
  simp only [putF, if_neg hF_n0_5, if_neg hF_n1_5, if_neg hF_n2_5, if_neg hF_n3_5, if_neg hF_n4_5, if_true]
theorem hF_make6 {v0 v1 v2 v3 v4 v5 v6 : V} : putF "pending" v6 ([("me", v0), ("shop", v1), ("answers", v2), ("asked", v3), ("mine", v4), ("words", v5)] : List (Str × V)) = ([("me", v0), ("shop", v1), ("answers", v2), ("asked", v3), ("mine", v4), ("words", v5), ("pending", v6)] : List (Str × V)) := by
  simp only [putF, if_neg hF_n0_6, if_neg hF_n1_6, if_neg hF_n2_6, if_neg hF_n3_6, if_neg hF_n4_6, if_neg hF_n5_6, if_true]
theorem hF_make7 {v0 v1 v2 v3 v4 v5 v6 v7 : V} : putF "end" v7 ([("me", v0), ("shop", v1), ("answers", v2), ("asked", v3), ("mine", v4), ("words", v5), ("pending", v6)] : List (Str × V)) = ([("me", v0), ("shop", v1), ("answers", v2), ("asked", v3), ("mine", v4), ("words", v5), ("pending", v6), ("end", v7)] : List (Str × V)) := by
  simp only [putF, if_neg hF_n0_7, if_neg hF_n1_7, if_neg hF_n2_7, if_neg hF_n3_7, if_neg hF_n4_7, if_neg hF_n5_7, if_neg hF_n6_7, if_true]
theorem hF_make8 {v0 v1 v2 v3 v4 v5 v6 v7 v8 : V} : putF "halted" v8 ([("me", v0), ("shop", v1), ("answers", v2), ("asked", v3), ("mine", v4), ("words", v5), ("pending", v6), ("end", v7)] : List (Str × V)) = ([("me", v0), ("shop", v1), ("answers", v2), ("asked", v3), ("mine", v4), ("words", v5), ("pending", v6), ("end", v7), ("halted", v8)] : List (Str × V)) := by
  simp only [putF, if_neg hF_n0_8, if_neg hF_n1_8, if_neg hF_n2_8, if_neg hF_n3_8, if_neg hF_n4_8, if_neg hF_n5_8, if_neg hF_n6_8, if_neg hF_n7_8, if_true]
theorem hF_no {v0 v1 v2 v3 v4 v5 v6 v7 v8 : V} {m : Str} (h0 : ¬ m = ("me" : Str)) (h1 : ¬ m = ("shop" : Str)) (h2 : ¬ m = ("answers" : Str)) (h3 : ¬ m = ("asked" : Str)) (h4 : ¬ m = ("mine" : Str)) (h5 : ¬ m = ("words" : Str)) (h6 : ¬ m = ("pending" : Str)) (h7 : ¬ m = ("end" : Str)) (h8 : ¬ m = ("halted" : Str)) : (hF v0 v1 v2 v3 v4 v5 v6 v7 v8).lookup m = none := by
  unfold hF
  rw [lookup_put, if_neg h0, lookup_put, if_neg h1, lookup_put, if_neg h2, lookup_put, if_neg h3, lookup_put, if_neg h4, lookup_put, if_neg h5, lookup_put, if_neg h6, lookup_put, if_neg h7, lookup_put, if_neg h8]
  rfl
end TW
namespace TW
open PySem PySem.Spec PyProof.Rows L2
/-- an own error with one field, as the top has written it, and its __init__ -/
structure Err1 (P : Program) (w : World) (K : PySem.W.Frag) (mg : Str → Option Value) (base : Heap) (x f : Str) (C : Addr) : Prop where
  ex : ∃ (fI : Addr) (fd : FuncData), ErrC K C fI f fd ∧ FnOk P w K mg base CX0 1 fI fd ["self", f] (spErrI C f)
  m : mg x = some (.ref C)
/-- Held: an own error without __init__ -/
structure Err0 (K : PySem.W.Frag) (mg : Str → Option Value) (x : Str) (C : Addr) : Prop where
  q : PySem.W.excIn K C [.type "Exception", .type "BaseException", .type "object"] "Exception.__new__" = true
  m : mg x = some (.ref C)
  k : PySem.W.keepIn K (.ref C) = true
  b : PySem.W.subIn K (.ref C) (.type "BaseException") = some true
  t : PySem.W.typeIn K (.ref C) = some (.type "type")
abbrev EX (E : XK) (C : Addr) (f : Str) (v : V) (H : Hp) : Prop := ∀ d, H d = none → E (.ref C) (some d) (upd H d (.xd [(f, v)]))
/-! ### check_value -/
def spCkV (K : PySem.W.Frag) (C : Addr) (n : Nat) : Sp := fun vs H Q E => ∃ (x : V) (b : Bool), vs = [x] ∧ Vn K H n x b ∧ ∀ H', Same H H' → (b = true → Q .non H') ∧ (b = false → EX E C "value" x H')
abbrev sCkV : Stmt := top 19
abbrev sCkT : Stmt := top 20
abbrev sGoing : Stmt := top 22
abbrev sHalt : Stmt := top 24
abbrev sAsk : Stmt := top 25
/-- the names of things: a dict's keys or a tuple's items -/
def Names (K : PySem.W.Frag) (H : Hp) (x : V) (l : List Str) : Prop := (∃ a kvs, x = .ref a ∧ Rd H a (.dK kvs) ∧ kvs.map (·.1) = l.map Sum.inr) ∨ ∃ a, x = .ref a ∧ SqT K H a (l.map V.str)
/-- whether y is one of them -/
def Among (K : PySem.W.Frag) (H : Hp) (l : List Str) (y : V) (b : Bool) : Prop := (∃ s, y = .str s ∧ b = decide (s ∈ l)) ∨ (b = false ∧ ∃ T, (∀ H', Same H H' → TyX K H' y (.type T)) ∧ kitB T "str" = some false)
def spCkT (K : PySem.W.Frag) (C : Addr) : Sp := fun vs H Q E => ∃ (x y : V) (l : List Str) (b : Bool), vs = [x, y] ∧ Names K H x l ∧ Among K H l y b ∧ (b = true → Q .non H) ∧ (b = false → EX E C "name" y H)
/-- raise C(e) -/
def tRaiseE (C : Addr) (f : Str) (W : WX) (ta : TA) : TS := fun _ σ H => tMkE C f ta σ H fun cls d H' => W cls d σ H'
section
variable {X : Cx}
/-- y not in x: a dict's keys, or a tuple's items -/
theorem op_notIn_any (hu : X.A.units + 1 < cLine) : OpR X (compareOp .NotIn) (fun y x H Q => (∃ a o, x = .ref a ∧ DGet H a y o ∧ Q (.bl (!o.isSome)) H) ∨ rIn X.K true y x H Q) := by
  intro pins s σ H y x v u Q I ry rx h
  rcases h with ⟨a, o, rfl, g, q⟩ | h
  · cases (show u = Value.ref a from rx)
    exact d_notIn hu I g ry fun s3 I3 => ⟨.bl (!o.isSome), H, I3, rfl, q⟩
  · exact op_notIn_seq pins s σ H y x v u Q I ry rx h
end
section
variable {P : Program} {w : World} {K : PySem.W.Frag} {mg : Str → Option Value} {base : Heap}
theorem scCkV : FnScope ["given"] ["given"] (defScope sCkV) := ⟨rfl, rfl, rfl, by decide +kernel, rfl, by decide +kernel, by decide +kernel⟩
theorem ok_ckV {f fV C : Addr} {fd fdV : FuncData} {n : Nat} (F : Fun K "check_value" "check_value" sCkV f fd) (G : FnOk P w K mg base CX0 (n + 1) fV fdV ["given"] (spIsV K n)) (mV : mg "is_value" = some (.ref fV)) (kV : PySem.W.keepIn K (.ref fV) = true) (bV : Binds K fdV ["given"] [])
    (Z : Err1 P w K mg base "BadValue" "value" C) : FnOk P w K mg base (L2.CX P w) (n + 3) f fd ["given"] (spCkV K C n) := by
  obtain ⟨fI, fdI, z, g⟩ := Z.ex
  refine F.okX scCkV (fun vs H Q E h => ?_) (fun cdv A outer s H vs Q E hr h => ?_)
  · obtain ⟨x, b, rfl, _⟩ := h
    rfl
  · obtain ⟨x, b, rfl, hV, k⟩ := h
    have hr1 : Room (n + 1) _ := hr.mono (by omega)
    have hr2 : Room 2 _ := hr.mono (by omega)
    refine ⟨_, pss_one (ps_if (pt_not (pt_val (pe_call G hr1 rfl mV kV bV .nil pass0 (pa_cons (pv 0) pa_nil)))) (pss_one (ps_raise rfl (takes_of (E := E) rfl rfl rfl rfl) (pmk_err z g hr2 Z.m (pa_cons (pv 0) pa_nil)))) pss_nil), ?_⟩
    refine ⟨_, rfl, x, b, rfl, hV, fun H' e => ⟨_, rfl, ?_⟩⟩
    cases b with
    | true =>
      refine iteF ?_
      exact (k H' e).1 rfl
    | false =>
      refine iteT ?_
      exact ⟨_, rfl, x, rfl, fun d hd => (k H' e).2 rfl d hd⟩
theorem scCkT : FnScope ["names", "name"] ["names", "name"] (defScope sCkT) := ⟨rfl, rfl, rfl, by decide +kernel, rfl, by decide +kernel, by decide +kernel⟩
theorem valV_keys {kvs : List (Key × V)} {l : List Str} (h : kvs.map (·.1) = l.map Sum.inr) (s : Str) : (valV kvs (Sum.inr s)).isSome = decide (s ∈ l) := by
  induction kvs generalizing l with
  | nil =>
    cases l with
    | nil => simp [valV]
    | cons t r => cases h
  | cons p r ih =>
    cases l with
    | nil => cases h
    | cons t l =>
      rw [List.map_cons, List.map_cons] at h
      obtain ⟨h1, h2⟩ := List.cons.inj h
      have e := ih h2
      unfold valV at e ⊢
      rw [List.find?_cons, h1]
      by_cases c : s = t
      · subst c
        simp
      · have n1 : decide ((Sum.inr t : Key) = Sum.inr s) = false := decide_eq_false fun z => c (Sum.inr.inj z).symm
        rw [n1]
        have n2 : decide (s ∈ t :: l) = decide (s ∈ l) := by
          simp [c]
        rw [n2]
        exact e
theorem inV_strs (s : Str) (l : List Str) : inV (.str s) (l.map V.str) = decide (s ∈ l) := by
  unfold inV
  induction l with
  | nil => simp
  | cons t l ih =>
    rw [List.map_cons, List.any_cons, ih]
    by_cases c : s = t
    · subst c
      simp [eqV]
    · have n1 : eqV (.str t) (.str s) = false := by
        show (t == s) = false
        exact beq_false_of_ne fun z => c z.symm
      rw [n1]
      simp [c]
theorem flat_strs (l : List Str) : (l.map V.str).all flatV = true := by
  rw [List.all_map]
  exact List.all_eq_true.mpr fun _ _ => rfl
theorem ok_ckT {f C : Addr} {fd : FuncData} (F : Fun K "check_thing" "check_thing" sCkT f fd) (B : Blt mg) (Z : Err1 P w K mg base "NoThing" "name" C) : FnOk P w K mg base (L2.CX P w) 3 f fd ["names", "name"] (spCkT K C) := by
  obtain ⟨fI, fdI, z, g⟩ := Z.ex
  refine F.okX scCkT (fun vs H Q E h => ?_) (fun cdv A outer s H vs Q E hr h => ?_)
  · obtain ⟨x, y, l, b, rfl, _⟩ := h
    rfl
  · obtain ⟨x, y, l, b, rfl, hN, hA, k1, k2⟩ := h
    refine ⟨_, pss_one (ps_if (PW.pt (pw_or (pt_not (pt_val (pe_callB call_isi (by rfl) B.isi (by decide +kernel) (pa_cons (pv 1) (pa_cons (pe_bltn (v := .ty "str") (by rfl) B.str (by decide +kernel) rfl) pa_nil)))))
        (pw_or1 (pt_cmpR (op_notIn_any (hu_of hr)) (pv 1) (pv 0) (by rfl))))) (pss_one (ps_raise rfl (takes_of (E := E) rfl rfl rfl rfl) (pmk_err z g hr Z.m (pa_cons (pv 1) pa_nil)))) pss_nil), ?_⟩
    rcases hA with ⟨s, rfl, rfl⟩ | ⟨rfl, T, ty, kt⟩
    · refine ⟨_, rfl, _, _, _, _, _, rfl, .ty _, .base (.str s), kit_ty (r := true) (by decide +kernel), _, rfl, ?_⟩
      refine iteF ?_
      have fin : ∀ b, b = decide (s ∈ l) → (if (!b) = true then tRaiseE C "name" (fun cls d _ H => E cls d H) (tCons (tVar 1) tNil) { nx := fun _ H' => Q .non H', rt := Q } (L2.start ["names", "name"] [x, .str s]) H else Q .non H) := by
        rintro b rfl
        by_cases c : s ∈ l
        · rw [decide_eq_true c]
          exact iteF (k1 (decide_eq_true c))
        · rw [decide_eq_false c]
          exact iteT ⟨_, rfl, _, rfl, fun d hd => k2 (decide_eq_false c) d hd⟩
      rcases hN with ⟨a, kvs, rfl, hd, hk⟩ | ⟨a, rfl, hq⟩
      · exact ⟨_, rfl, _, rfl, .inl ⟨a, _, rfl, .inl ⟨kvs, Sum.inr s, hd, rfl, rfl⟩, _, rfl, fin _ (valV_keys hk s)⟩⟩
      · exact ⟨_, rfl, _, rfl, .inr ⟨a, _, rfl, .inr hq, rfl, flat_strs l, _, rfl, fin _ (inV_strs s l)⟩⟩
    · refine ⟨_, rfl, _, _, _, _, _, rfl, .ty _, ty _ (Same.refl _), kit_ty kt, _, rfl, ?_⟩
      refine iteT (iteT ?_)
      exact ⟨_, rfl, _, rfl, fun d hd => k2 rfl d hd⟩
end
end TW
namespace TW
open PySem PySem.Spec PyProof.Rows L2
/-- a hand between two rows of its methods -/
structure HS where
  me : Int
  sh : Addr
  an : Addr
  ans : List V
  asked : Nat
  md : Addr
  mine : List (Key × V)
  wl : Addr
  words : List V
  pend : V
  fin : V
  halted : Bool
def HS.fs (h : HS) : List (Str × V) := hF (.int h.me) (.ref h.sh) (.ref h.an) (.int (h.asked : Int)) (.ref h.md) (.ref h.wl) h.pend h.fin (.bl h.halted)
structure HandAt (K : PySem.W.Frag) (C : Addr) (H : Hp) (hd dx : Addr) (h : HS) : Prop where
  ob : H hd = some (.ins C dx h.fs)
  a : SqT K H h.an h.ans
  m : H h.md = some (.dK h.mine)
  w : H h.wl = some (.lst h.words)
/-- what the top has written of the class Hand -/
structure HTxt (K : PySem.W.Frag) (C : Addr) : Prop where
  cl : Cls K C
  me : NoAttr K C "me"
  shop : NoAttr K C "shop"
  answers : NoAttr K C "answers"
  asked : NoAttr K C "asked"
  mine : NoAttr K C "mine"
  words : NoAttr K C "words"
  pending : NoAttr K C "pending"
  end_ : NoAttr K C "end"
  halted : NoAttr K C "halted"
section
variable {K : PySem.W.Frag} {C : Addr} {H H' : Hp} {hd dx : Addr} {h h' : HS}
theorem seqT_ins {a : Addr} {xs : List V} {fs gs : List (Str × V)} (e : H hd = some (.ins C dx fs)) (q : SqT K H a xs) : SqT K (upd H hd (.ins C dx gs)) a xs := by
  have ne : ∀ {b : Addr} {o : HO}, H b = some o → (∀ gs, o ≠ .ins C dx gs) → b ≠ hd := fun {b o} z n y => by
    rw [y, e] at z
    exact n _ (Option.some.inj z).symm
  rcases q with (q | ⟨o, q⟩) | q
  · exact .inl (.inl (by rw [upd_ne (ne q (fun _ z => by cases z))]; exact q))
  · exact .inl (.inr ⟨o, by rw [upd_ne (ne q (fun _ z => by cases z))]; exact q⟩)
  · exact .inr q
/-- a plain field is stored -/
theorem HandAt.set (A : HandAt K C H hd dx h) (h1 : h'.an = h.an ∧ h'.ans = h.ans ∧ h'.md = h.md ∧ h'.mine = h.mine ∧ h'.wl = h.wl ∧ h'.words = h.words) : HandAt K C (upd H hd (.ins C dx h'.fs)) hd dx h' := by
  obtain ⟨e1, e2, e3, e4, e5, e6⟩ := h1
  refine ⟨upd_same, ?_, ?_, ?_⟩
  · rw [e1, e2]
    exact seqT_ins A.ob A.a
  · rw [e3, e4, upd_ne (ne_of A.m A.ob (by intro z; cases z))]
    exact A.m
  · rw [e5, e6, upd_ne (ne_of A.w A.ob (by intro z; cases z))]
    exact A.w
theorem HandAt.same (e : Same H H') (A : HandAt K C H hd dx h) : HandAt K C H' hd dx h := ⟨e _ _ A.ob, seqT_same e A.a, e _ _ A.m, e _ _ A.w⟩
end
def spGoing (K : PySem.W.Frag) (C CH : Addr) : Sp := fun vs H Q E => ∃ (hd dx : Addr) (h : HS), vs = [.ref hd] ∧ HandAt K C H hd dx h ∧ (h.halted = false → Q .non H) ∧ (h.halted = true → E (.ref CH) none H)
def spHalt (K : PySem.W.Frag) (C CH : Addr) : Sp := fun vs H Q E => ∃ (hd dx : Addr) (h : HS), vs = [.ref hd] ∧ HandAt K C H hd dx h ∧ E (.ref CH) none (upd H hd (.ins C dx { h with halted := true }.fs))
def spAsk (K : PySem.W.Frag) (C CH : Addr) : Sp := fun vs H Q E => ∃ (hd dx : Addr) (h : HS) (wish : V), vs = [.ref hd, wish] ∧ HandAt K C H hd dx h ∧ h.asked ≤ h.ans.length ∧ h.ans.length ≤ 1000 ∧
  (∀ v, h.ans[h.asked]? = some v → Q v (upd H hd (.ins C dx { h with asked := h.asked + 1 }.fs))) ∧ (h.asked = h.ans.length → E (.ref CH) none (upd H hd (.ins C dx { h with pend := wish, halted := true }.fs)))
section
variable {P : Program} {w : World} {K : PySem.W.Frag} {mg : Str → Option Value} {base : Heap} {C CH : Addr}
theorem scGoing : FnScope ["hand"] ["hand"] (defScope sGoing) := ⟨rfl, rfl, rfl, by decide +kernel, rfl, by decide +kernel, by decide +kernel⟩
theorem ok_going {f : Addr} {fd : FuncData} (F : Fun K "check_going" "check_going" sGoing f fd) (T : HTxt K C) (Z : Err0 K mg "Held" CH) : FnOk P w K mg base (L2.CX P w) 1 f fd ["hand"] (spGoing K C CH) := by
  refine F.okX scGoing (fun vs H Q E h => ?_) (fun cdv A outer s H vs Q E hr h => ?_)
  · obtain ⟨hd, dx, h, rfl, _⟩ := h
    rfl
  · obtain ⟨hd, dx, h, rfl, hA, k1, k2⟩ := h
    refine ⟨_, pss_one (ps_if (pt_val (pe_fld (pv 0) rfl)) (pss_one (ps_raise rfl (takes_of (E := E) rfl rfl rfl rfl) (pmk_exc0 PySem.F.excBase_Exception Z.q Z.m Z.k (raises_own Z.b Z.t)))) pss_nil), ?_⟩
    refine ⟨_, rfl, hd, C, dx, _, _, rfl, hA.ob, T.cl, T.halted, hF_get8, _, rfl, ?_⟩
    cases e : h.halted with
    | true => exact iteT (k2 e)
    | false => exact iteF (k1 e)
theorem scHalt : FnScope ["hand"] ["hand"] (defScope sHalt) := ⟨rfl, rfl, rfl, by decide +kernel, rfl, by decide +kernel, by decide +kernel⟩
theorem few9 {a b c d e f g i j : V} : (hF a b c d e f g i j).length < 1000 := by
  show 9 < 1000
  decide
theorem ok_halt {f : Addr} {fd : FuncData} (F : Fun K "halt" "halt" sHalt f fd) (T : HTxt K C) (Z : Err0 K mg "Held" CH) : FnOk P w K mg base (L2.CX P w) 1 f fd ["hand"] (spHalt K C CH) := by
  refine F.okX scHalt (fun vs H Q E h => ?_) (fun cdv A outer s H vs Q E hr h => ?_)
  · obtain ⟨hd, dx, h, rfl, _⟩ := h
    rfl
  · obtain ⟨hd, dx, h, rfl, hA, k⟩ := h
    refine ⟨_, pss_cons (ps_fld (pv 0) pe_bl rfl) (pss_one (ps_raise rfl (takes_of (E := E) rfl rfl rfl rfl) (pmk_exc0 PySem.F.excBase_Exception Z.q Z.m Z.k (raises_own Z.b Z.t)))), ?_⟩
    refine ⟨_, rfl, hd, C, dx, _, rfl, hA.ob, T.cl, T.halted, few9, ?_⟩
    unfold HS.fs at k ⊢
    rw [hF_put8]
    exact k
theorem scAsk : FnScope ["hand", "wish", "answer"] ["hand", "wish"] (defScope sAsk) := ⟨rfl, rfl, rfl, by decide +kernel, rfl, by decide +kernel, by decide +kernel⟩
theorem ok_ask {f fH : Addr} {fd fdH : FuncData} (F : Fun K "ask" "ask" sAsk f fd) (B : Blt mg) (T : HTxt K C) (G : FnOk P w K mg base (L2.CX P w) 1 fH fdH ["hand"] (spHalt K C CH)) (mH : mg "halt" = some (.ref fH)) (kH : PySem.W.keepIn K (.ref fH) = true) (bH : Binds K fdH ["hand"] []) :
    FnOk P w K mg base (L2.CX P w) 2 f fd ["hand", "wish"] (spAsk K C CH) := by
  refine F.okX scAsk (fun vs H Q E h => ?_) (fun cdv A outer s H vs Q E hr h => ?_)
  · obtain ⟨hd, dx, h, wish, rfl, _⟩ := h
    rfl
  · obtain ⟨hd, dx, h, wish, rfl, hA, le, few, k1, k2⟩ := h
    refine ⟨_, pss_cons (ps_if (pt_cmpR op_eq (pe_fld (pv 0) rfl) (pe_callB call_len_seq (by rfl) B.len PySem.boot_len (pa_cons (pe_fld (pv 0) rfl) pa_nil)) (nomark _))
        (pss_cons (ps_fld (pv 0) (pv 1) rfl) (pss_one (ps_expr (pe_callS G hr rfl mH kH bH (fun σ => passAt (takes_of (E := E) rfl rfl rfl rfl) σ) (pa_cons (pv 0) pa_nil))))) pss_nil)
      (pss_cons (ps_set (i := 2) scAsk.nd rfl (.inl rfl) (pe_ix ix_tup (pe_fld (pv 0) rfl) (pe_fld (pv 0) rfl) (fun _ _ => rfl)))
      (pss_cons (ps_fldaug (pv 0) pe_int in_add)
      (pss_one (ps_ret (pv 2))))), ?_⟩
    refine ⟨_, rfl, hd, C, dx, _, _, rfl, hA.ob, T.cl, T.asked, hF_get3, _, rfl, hd, C, dx, _, _, rfl, hA.ob, T.cl, T.answers, hF_get2, h.an, _, rfl, .inr hA.a, rfl, _, rfl, ?_⟩
    by_cases c : h.asked = h.ans.length
    · rw [decide_eq_true (by rw [c])]
      refine iteT ?_
      refine ⟨_, rfl, _, rfl, hd, C, dx, _, rfl, hA.ob, T.cl, T.pending, few9, ?_⟩
      have e := k2 c
      have hB : HandAt K C (upd H hd (.ins C dx { h with pend := wish }.fs)) hd dx { h with pend := wish } := hA.set ⟨rfl, rfl, rfl, rfl, rfl, rfl⟩
      unfold HS.fs at hB ⊢
      rw [hF_put6]
      refine ⟨_, rfl, hd, dx, { h with pend := wish }, rfl, hB, ?_⟩
      rw [upd_upd]
      exact e
    · rw [decide_eq_false (by intro z; apply c; have := V.int.inj z; omega)]
      refine iteF ?_
      have lt : h.asked < h.ans.length := by omega
      have hv : h.ans[h.asked]? = some h.ans[h.asked] := List.getElem?_eq_getElem lt
      refine ⟨_, rfl, hd, C, dx, _, _, rfl, hA.ob, T.cl, T.answers, hF_get2, _, rfl, hd, C, dx, _, _, rfl, hA.ob, T.cl, T.asked, hF_get3, h.an, _, _, _, rfl, rfl, hA.a, atI_nat hv, ?_⟩
      refine ⟨_, rfl, hd, C, dx, _, _, rfl, hA.ob, T.cl, T.asked, hF_get3, _, _, rfl, rfl, _, _, hA.ob, few9, ?_⟩
      have e := k1 _ hv
      unfold HS.fs at e ⊢
      rw [hF_put3]
      exact ⟨_, rfl, e⟩
end
end TW
namespace TW
open PySem PySem.Spec PyProof.Rows L2
section
variable {X : Cx} {CX : CXT} {k : Nat} {f : Addr} {sp : Sp} {E : XK} {x : Str} {p pos : Pos} {e : Expr} {es : List Expr} {t : TA}
/-- x(e, ..), x a def told by what it does with the values that come -/
theorem pe_callR (F : FnR X.prog X.w X.K X.mg X.base CX k f sp) (hr : Room k X.A) (hk : PySem.W.keepIn X.K (.ref f) = true) (hg : Gl X x) (hm : X.mg x = some (.ref f)) (hx : Passes CX X E) (ha : PA X (e :: es) t) (hd : (x == ("__debug__" : Str)) = false := by decide)
    (he : starEach (e :: es) X.env = (false, eval e X.env) :: starEach es X.env := by rfl) (hpl : (backTo pos (starEach es X.env)).any (·.1) = false := by rfl) :
    PE X (.Call (.Name x p) (e :: es) [] pos) (fun σ H Q => t σ H fun vs H1 => sp vs H1 Q E) := by
  refine ⟨fun pins s σ H Q I h => ?_⟩
  refine wpAny_Call_Name_kw (ld_glob I hg hm ?_ hd)
  refine PySem.W.callWith_K (h₀ := X.base) I.ok.mod.kin hk (thn (ha.run pos pins s σ H _ I h) fun us s1 ⟨vs, H1, I1, r, q⟩ => ⟨I1.kIn, ?_⟩) he hpl
  exact wpAny_call (run_fnR F hr hx I1 r q)
end
theorem bind_star3 {B : List Value → Sem (List (Str × Value))} {p1 p2 p3 pv : Str} (h0 : ∀ a b c, B [a, b, c] = (newTuple [] >>= fun t => pure [(p1, a), (p2, b), (p3, c), (pv, t)])) (h1 : ∀ a b c r rs, B (a :: b :: c :: r :: rs) = (newTuple (r :: rs) >>= fun t => pure [(p1, a), (p2, b), (p3, c), (pv, t)])) :
    ∀ us rest : List Value, us.length = [p1, p2, p3].length → B (us ++ rest) = (newTuple rest >>= fun t => pure ([p1, p2, p3].zip us ++ [(pv, t)]))
  | [a, b, c], [], _ => h0 a b c
  | [a, b, c], r :: rs, _ => h1 a b c r rs
abbrev sCall : Stmt := top 23
/-- the errors of a call in their order, else nothing -/
def spCallB (K : PySem.W.Frag) (C CH CN CV : Addr) (n : Nat) : Sp := fun vs H Q E => ∃ (hd dx tp : Addr) (h : HS) (x y : V) (l : List Str) (b : Bool) (rest : List V) (cs : List Bool), vs = [.ref hd, x, y, .ref tp] ∧ H tp = some (.tup rest) ∧ rest.length = cs.length ∧ rest.length ≤ 1000 ∧ HandAt K C H hd dx h ∧ Names K H x l ∧ Among K H l y b ∧
  (∀ (i : Nat) (r : V) (c : Bool), rest[i]? = some r → cs[i]? = some c → Vn K H n r c) ∧ (h.halted = true → E (.ref CH) none H) ∧ (h.halted = false → b = false → EX E CN "name" y H) ∧
  (h.halted = false → b = true → ∀ H', Same H H' → (∀ (i : Nat) (r : V), rest[i]? = some r → cs[i]? = some false → (∀ j, j < i → cs[j]? = some true) → EX E CV "value" r H') ∧ (cs.all id = true → Q .non H'))
section
variable {P : Program} {w : World} {K : PySem.W.Frag} {mg : Str → Option Value} {base : Heap} {C CH CN CV : Addr}
theorem scCall : FnScope ["hand", "names", "name", "given", "value"] (([("hand" : Str), "names", "name"] : List Str) ++ [("given" : Str)]) (defScope sCall) := ⟨rfl, rfl, rfl, by decide +kernel, rfl, by decide +kernel, by decide +kernel⟩
theorem ok_call {f fG fT fV : Addr} {fd fdG fdT fdV : FuncData} {n : Nat} (F : Fun K "check_call" "check_call" sCall f fd)
    (GG : FnOk P w K mg base (L2.CX P w) 1 fG fdG ["hand"] (spGoing K C CH)) (mG : mg "check_going" = some (.ref fG)) (kG : PySem.W.keepIn K (.ref fG) = true) (bG : Binds K fdG ["hand"] [])
    (GT : FnOk P w K mg base (L2.CX P w) 3 fT fdT ["names", "name"] (spCkT K CN)) (mT : mg "check_thing" = some (.ref fT)) (kT : PySem.W.keepIn K (.ref fT) = true) (bT : Binds K fdT ["names", "name"] [])
    (GV : FnOk P w K mg base (L2.CX P w) (n + 3) fV fdV ["given"] (spCkV K CV n)) (mV : mg "check_value" = some (.ref fV)) (kV : PySem.W.keepIn K (.ref fV) = true) (bV : Binds K fdV ["given"] []) :
    FnR P w K mg base (L2.CX P w) (n + 4) f (fun vs H Q E => ∃ ws rest, vs = ws ++ rest ∧ ws.length = (["hand", "names", "name"] : List Str).length ∧ rest.length ≤ sizeLine ∧ ∀ p, H p = Option.none → spCallB K C CH CN CV n (ws ++ [V.ref p]) (upd H p (.tup rest)) Q E) := by
  obtain ⟨oc, od, kVV, doc, pm, an, cdv, ct, osl, rfl, lk, hcd⟩ := F.ex
  refine StX.fn_star (ps := ["hand", "names", "name"]) (pv := "given") lk hcd scCall StX.cxUp (bind_star3 (B := fun us => bindArgs (PySem.W.fnOf "check_call" "check_call" (defArgs sCall) (defBody sCall) (defScope sCall) .none kVV doc pm an cdv ct) ⟨us, []⟩) (fun _ _ _ => rfl) (fun _ _ _ _ _ => rfl)) fun A outer s H vs Q E hr h => ?_
  obtain ⟨hd, dx, tp, h, x, y, l, b, rest, cs, rfl, htp, hlen, few, hA, hN, hY, hR, k1, k2, k3⟩ := h
  have hr1 : Room 1 _ := hr.mono (by omega)
  have hr3 : Room 3 _ := hr.mono (by omega)
  refine ⟨_, pss_cons (ps_expr (pe_callS GG hr1 rfl mG kG bG (fun σ => passAt (takes_of (E := E) rfl rfl rfl rfl) σ) (pa_cons (pv 0) pa_nil)))
    (pss_cons (ps_expr (pe_callS GT hr3 rfl mT kT bT (fun σ => passAt (takes_of (E := E) rfl rfl rfl rfl) σ) (pa_cons (pv 1) (pa_cons (pv 2) pa_nil))))
    (pss_one (ps_for (passes_of rfl) rfl (pi_tup (pv 3)) (pg_name (i := 4) scCall.nd rfl (Or.inl rfl))
      (pss_one (ps_expr (pe_callS GV hr rfl mV kV bV (fun σ => passAt (takes_of (E := E) rfl rfl rfl rfl) σ) (pa_cons (pv 4) pa_nil))))))), ?_⟩
  refine ⟨_, rfl, hd, dx, h, rfl, hA, fun nh => ?_, fun hh => k1 hh⟩
  refine ⟨_, rfl, _, rfl, x, y, l, b, rfl, hN, hY, fun hb => ?_, fun hb => k2 nh hb⟩
  refine ⟨_, rfl, tp, rfl, ⟨_, SqT.of htp⟩, ?_⟩
  refine for_tup (K := K) (a := tp) (xs := rest) (fun i σ H' => (∃ v : Option V, σ = [some (.ref hd), some x, some y, some (.ref tp), v]) ∧ Same H H' ∧ ∀ j, j < i → cs[j]? = some true) ⟨⟨_, rfl⟩, Same.refl _, fun j hj => absurd hj (Nat.not_lt_zero j)⟩ (fun i σ H' _ z => SqT.of (z.2.1 _ _ htp)) ?_ ?_
  · rintro i r σ H' hi ⟨⟨v, rfl⟩, e, g⟩
    have lt : i < cs.length := hlen ▸ (List.getElem?_eq_some_iff.mp hi).1
    have hc : cs[i]? = some cs[i] := List.getElem?_eq_getElem lt
    refine ⟨_, rfl, r, cs[i], rfl, (hR i r _ hi hc).same e, fun H2 e2 => ⟨fun c => ?_, fun c => ?_⟩⟩
    · refine ⟨⟨_, rfl⟩, e.trans e2, fun j hj => ?_⟩
      by_cases q : j = i
      · rw [q, hc, c]
      · exact g j (by omega)
    · exact (k3 nh hb H2 (e.trans e2)).1 i r hi (by rw [hc, c]) g
  · rintro σ H' ⟨⟨v, rfl⟩, e, g⟩
    refine (k3 nh hb H' e).2 (List.all_eq_true.mpr fun c hc => ?_)
    obtain ⟨j, hj, q⟩ := List.getElem_of_mem hc
    have z := g j (hlen ▸ hj)
    rw [List.getElem?_eq_getElem hj, q] at z
    exact Option.some.inj z
end
end TW
namespace TW
open PySem PySem.Spec PyProof.Rows L2
theorem sF_n0_1 : ¬ (("works" : Str) = "cells") := by decide +kernel
theorem sF_n0_2 : ¬ (("works" : Str) = "locks") := by decide +kernel
theorem sF_n0_3 : ¬ (("works" : Str) = "belts") := by decide +kernel
theorem sF_n0_4 : ¬ (("works" : Str) = "many") := by decide +kernel
theorem sF_n0_5 : ¬ (("works" : Str) = "longest") := by decide +kernel
theorem sF_n0_6 : ¬ (("works" : Str) = "most") := by decide +kernel
theorem sF_n1_0 : ¬ (("cells" : Str) = "works") := by decide +kernel
theorem sF_n1_2 : ¬ (("cells" : Str) = "locks") := by decide +kernel
theorem sF_n1_3 : ¬ (("cells" : Str) = "belts") := by decide +kernel
theorem sF_n1_4 : ¬ (("cells" : Str) = "many") := by decide +kernel
theorem sF_n1_5 : ¬ (("cells" : Str) = "longest") := by decide +kernel
theorem sF_n1_6 : ¬ (("cells" : Str) = "most") := by decide +kernel
theorem sF_n2_0 : ¬ (("locks" : Str) = "works") := by decide +kernel
theorem sF_n2_1 : ¬ (("locks" : Str) = "cells") := by decide +kernel
theorem sF_n2_3 : ¬ (("locks" : Str) = "belts") := by decide +kernel
theorem sF_n2_4 : ¬ (("locks" : Str) = "many") := by decide +kernel
theorem sF_n2_5 : ¬ (("locks" : Str) = "longest") := by decide +kernel
theorem sF_n2_6 : ¬ (("locks" : Str) = "most") := by decide +kernel
theorem sF_n3_0 : ¬ (("belts" : Str) = "works") := by decide +kernel
theorem sF_n3_1 : ¬ (("belts" : Str) = "cells") := by decide +kernel
theorem sF_n3_2 : ¬ (("belts" : Str) = "locks") := by decide +kernel
theorem sF_n3_4 : ¬ (("belts" : Str) = "many") := by decide +kernel
theorem sF_n3_5 : ¬ (("belts" : Str) = "longest") := by decide +kernel
theorem sF_n3_6 : ¬ (("belts" : Str) = "most") := by decide +kernel
theorem sF_n4_0 : ¬ (("many" : Str) = "works") := by decide +kernel
theorem sF_n4_1 : ¬ (("many" : Str) = "cells") := by decide +kernel
theorem sF_n4_2 : ¬ (("many" : Str) = "locks") := by decide +kernel
theorem sF_n4_3 : ¬ (("many" : Str) = "belts") := by decide +kernel
theorem sF_n4_5 : ¬ (("many" : Str) = "longest") := by decide +kernel
theorem sF_n4_6 : ¬ (("many" : Str) = "most") := by decide +kernel
theorem sF_n5_0 : ¬ (("longest" : Str) = "works") := by decide +kernel
theorem sF_n5_1 : ¬ (("longest" : Str) = "cells") := by decide +kernel
theorem sF_n5_2 : ¬ (("longest" : Str) = "locks") := by decide +kernel
theorem sF_n5_3 : ¬ (("longest" : Str) = "belts") := by decide +kernel
theorem sF_n5_4 : ¬ (("longest" : Str) = "many") := by decide +kernel
theorem sF_n5_6 : ¬ (("longest" : Str) = "most") := by decide +kernel
theorem sF_n6_0 : ¬ (("most" : Str) = "works") := by decide +kernel
theorem sF_n6_1 : ¬ (("most" : Str) = "cells") := by decide +kernel
theorem sF_n6_2 : ¬ (("most" : Str) = "locks") := by decide +kernel
theorem sF_n6_3 : ¬ (("most" : Str) = "belts") := by decide +kernel
theorem sF_n6_4 : ¬ (("most" : Str) = "many") := by decide +kernel
theorem sF_n6_5 : ¬ (("most" : Str) = "longest") := by decide +kernel
/-- the attributes of a sF, in the order in which __init__ stores them -/
def sF (v0 v1 v2 v3 v4 v5 v6 : V) : List (Str × V) := [("works", v0), ("cells", v1), ("locks", v2), ("belts", v3), ("many", v4), ("longest", v5), ("most", v6)]
theorem sF_get0 {v0 v1 v2 v3 v4 v5 v6 : V} : (sF v0 v1 v2 v3 v4 v5 v6).lookup ("works" : Str) = some v0 := by
  unfold sF
  rw [lookup_put, if_pos rfl]
theorem sF_put0 {v0 v1 v2 v3 v4 v5 v6 z : V} : putF "works" z (sF v0 v1 v2 v3 v4 v5 v6) = sF z v1 v2 v3 v4 v5 v6 := by
  unfold sF
  simp only [putF, if_true]
theorem sF_get1 {v0 v1 v2 v3 v4 v5 v6 : V} : (sF v0 v1 v2 v3 v4 v5 v6).lookup ("cells" : Str) = some v1 := by
  unfold sF
  rw [lookup_put, if_neg sF_n1_0, lookup_put, if_pos rfl]
theorem sF_put1 {v0 v1 v2 v3 v4 v5 v6 z : V} : putF "cells" z (sF v0 v1 v2 v3 v4 v5 v6) = sF v0 z v2 v3 v4 v5 v6 := by
  unfold sF
  simp only [putF, if_neg sF_n0_1, if_true]
theorem sF_get2 {v0 v1 v2 v3 v4 v5 v6 : V} : (sF v0 v1 v2 v3 v4 v5 v6).lookup ("locks" : Str) = some v2 := by
  unfold sF
  rw [lookup_put, if_neg sF_n2_0, lookup_put, if_neg sF_n2_1, lookup_put, if_pos rfl]
theorem sF_put2 {v0 v1 v2 v3 v4 v5 v6 z : V} : putF "locks" z (sF v0 v1 v2 v3 v4 v5 v6) = sF v0 v1 z v3 v4 v5 v6 := by
  unfold sF
  simp only [putF, if_neg sF_n0_2, if_neg sF_n1_2, if_true]
theorem sF_get3 {v0 v1 v2 v3 v4 v5 v6 : V} : (sF v0 v1 v2 v3 v4 v5 v6).lookup ("belts" : Str) = some v3 := by
  unfold sF
  rw [lookup_put, if_neg sF_n3_0, lookup_put, if_neg sF_n3_1, lookup_put, if_neg sF_n3_2, lookup_put, if_pos rfl]
theorem sF_put3 {v0 v1 v2 v3 v4 v5 v6 z : V} : putF "belts" z (sF v0 v1 v2 v3 v4 v5 v6) = sF v0 v1 v2 z v4 v5 v6 := by
  unfold sF
  simp only [putF, if_neg sF_n0_3, if_neg sF_n1_3, if_neg sF_n2_3, if_true]
theorem sF_get4 {v0 v1 v2 v3 v4 v5 v6 : V} : (sF v0 v1 v2 v3 v4 v5 v6).lookup ("many" : Str) = some v4 := by
  unfold sF
  rw [lookup_put, if_neg sF_n4_0, lookup_put, if_neg sF_n4_1, lookup_put, if_neg sF_n4_2, lookup_put, if_neg sF_n4_3, lookup_put, if_pos rfl]
theorem sF_put4 {v0 v1 v2 v3 v4 v5 v6 z : V} : putF "many" z (sF v0 v1 v2 v3 v4 v5 v6) = sF v0 v1 v2 v3 z v5 v6 := by
  unfold sF
  simp only [putF, if_neg sF_n0_4, if_neg sF_n1_4, if_neg sF_n2_4, if_neg sF_n3_4, if_true]
theorem sF_get5 {v0 v1 v2 v3 v4 v5 v6 : V} : (sF v0 v1 v2 v3 v4 v5 v6).lookup ("longest" : Str) = some v5 := by
  unfold sF
  rw [lookup_put, if_neg sF_n5_0, lookup_put, if_neg sF_n5_1, lookup_put, if_neg sF_n5_2, lookup_put, if_neg sF_n5_3, lookup_put, if_neg sF_n5_4, lookup_put, if_pos rfl]
theorem sF_put5 {v0 v1 v2 v3 v4 v5 v6 z : V} : putF "longest" z (sF v0 v1 v2 v3 v4 v5 v6) = sF v0 v1 v2 v3 v4 z v6 := by
  unfold sF
  simp only [putF, if_neg sF_n0_5, if_neg sF_n1_5, if_neg sF_n2_5, if_neg sF_n3_5, if_neg sF_n4_5, if_true]
theorem sF_get6 {v0 v1 v2 v3 v4 v5 v6 : V} : (sF v0 v1 v2 v3 v4 v5 v6).lookup ("most" : Str) = some v6 := by
  unfold sF
  rw [lookup_put, if_neg sF_n6_0, lookup_put, if_neg sF_n6_1, lookup_put, if_neg sF_n6_2, lookup_put, if_neg sF_n6_3, lookup_put, if_neg sF_n6_4, lookup_put, if_neg sF_n6_5, lookup_put, if_pos rfl]
theorem sF_put6 {v0 v1 v2 v3 v4 v5 v6 z : V} : putF "most" z (sF v0 v1 v2 v3 v4 v5 v6) = sF v0 v1 v2 v3 v4 v5 z := by
  unfold sF
  simp only [putF, if_neg sF_n0_6, if_neg sF_n1_6, if_neg sF_n2_6, if_neg sF_n3_6, if_neg sF_n4_6, if_neg sF_n5_6, if_true]
theorem sF_make0 {v0 : V} : putF "works" v0 ([] : List (Str × V)) = ([("works", v0)] : List (Str × V)) := rfl
theorem sF_make1 {v0 v1 : V} : putF "cells" v1 ([("works", v0)] : List (Str × V)) = ([("works", v0), ("cells", v1)] : List (Str × V)) := by
  simp only [putF, if_neg sF_n0_1, if_true]
theorem sF_make2 {v0 v1 v2 : V} : putF "locks" v2 ([("works", v0), ("cells", v1)] : List (Str × V)) = ([("works", v0), ("cells", v1), ("locks", v2)] : List (Str × V)) := by
  simp only [putF, if_neg sF_n0_2, if_neg sF_n1_2, if_true]
theorem sF_make3 {v0 v1 v2 v3 : V} : putF "belts" v3 ([("works", v0), ("cells", v1), ("locks", v2)] : List (Str × V)) = ([("works", v0), ("cells", v1), ("locks", v2), ("belts", v3)] : List (Str × V)) := by
  simp only [putF, if_neg sF_n0_3, if_neg sF_n1_3, if_neg sF_n2_3, if_true]
theorem sF_make4 {v0 v1 v2 v3 v4 : V} : putF "many" v4 ([("works", v0), ("cells", v1), ("locks", v2), ("belts", v3)] : List (Str × V)) = ([("works", v0), ("cells", v1), ("locks", v2), ("belts", v3), ("many", v4)] : List (Str × V)) := by
  simp only [putF, if_neg sF_n0_4, if_neg sF_n1_4, if_neg sF_n2_4, if_neg sF_n3_4, if_true]
theorem sF_make5 {v0 v1 v2 v3 v4 v5 : V} : putF "longest" v5 ([("works", v0), ("cells", v1), ("locks", v2), ("belts", v3), ("many", v4)] : List (Str × V)) = ([("works", v0), ("cells", v1), ("locks", v2), ("belts", v3), ("many", v4), ("longest", v5)] : List (Str × V)) := by
  simp only [putF, if_neg sF_n0_5, if_neg sF_n1_5, if_neg sF_n2_5, if_neg sF_n3_5, if_neg sF_n4_5, if_true]
theorem sF_make6 {v0 v1 v2 v3 v4 v5 v6 : V} : putF "most" v6 ([("works", v0), ("cells", v1), ("locks", v2), ("belts", v3), ("many", v4), ("longest", v5)] : List (Str × V)) = ([("works", v0), ("cells", v1), ("locks", v2), ("belts", v3), ("many", v4), ("longest", v5), ("most", v6)] : List (Str × V)) := by
  simp only [putF, if_neg sF_n0_6, if_neg sF_n1_6, if_neg sF_n2_6, if_neg sF_n3_6, if_neg sF_n4_6, if_neg sF_n5_6, if_true]
theorem sF_no {v0 v1 v2 v3 v4 v5 v6 : V} {m : Str} (h0 : ¬ m = ("works" : Str)) (h1 : ¬ m = ("cells" : Str)) (h2 : ¬ m = ("locks" : Str)) (h3 : ¬ m = ("belts" : Str)) (h4 : ¬ m = ("many" : Str)) (h5 : ¬ m = ("longest" : Str)) (h6 : ¬ m = ("most" : Str)) : (sF v0 v1 v2 v3 v4 v5 v6).lookup m = none := by
  unfold sF
  rw [lookup_put, if_neg h0, lookup_put, if_neg h1, lookup_put, if_neg h2, lookup_put, if_neg h3, lookup_put, if_neg h4, lookup_put, if_neg h5, lookup_put, if_neg h6]
  rfl
/-- a shop as __init__ has left it -/
structure SS where
  dx : Addr
  wt : Addr
  works : List V
  cd : Addr
  cells : List (Key × V)
  cellN : List Str
  lt : Addr
  locks : List Str
  bd : Addr
  belts : List (Key × V)
  beltN : List Str
  many : Int
  longest : Int
  most : Int
structure ShopAt (K : PySem.W.Frag) (C : Addr) (H : Hp) (sh : Addr) (S : SS) : Prop where
  ob : H sh = some (.ins C S.dx (sF (.ref S.wt) (.ref S.cd) (.ref S.lt) (.ref S.bd) (.int S.many) (.int S.longest) (.int S.most)))
  w : SqT K H S.wt S.works
  c : H S.cd = some (.dK S.cells)
  cn : S.cells.map (·.1) = S.cellN.map Sum.inr
  l : SqT K H S.lt (S.locks.map V.str)
  b : H S.bd = some (.dK S.belts)
  bn : S.belts.map (·.1) = S.beltN.map Sum.inr
structure STxt (K : PySem.W.Frag) (C : Addr) : Prop where
  cl : Cls K C
  works : NoAttr K C "works"
  cells : NoAttr K C "cells"
  locks : NoAttr K C "locks"
  belts : NoAttr K C "belts"
  many : NoAttr K C "many"
  longest : NoAttr K C "longest"
  most : NoAttr K C "most"
section
variable {K : PySem.W.Frag} {H H' : Hp}
theorem ShopAt.same {C sh : Addr} {S : SS} (e : Same H H') (A : ShopAt K C H sh S) : ShopAt K C H' sh S := ⟨e _ _ A.ob, seqT_same e A.w, e _ _ A.c, A.cn, seqT_same e A.l, e _ _ A.b, A.bn⟩
theorem Names.same {x : V} {l : List Str} (e : Same H H') (h : Names K H x l) : Names K H' x l := by
  rcases h with ⟨a, kvs, rfl, (h | ⟨o, h⟩), k⟩ | ⟨a, rfl, h⟩
  · exact .inl ⟨a, kvs, rfl, .inl (e _ _ h), k⟩
  · exact .inl ⟨a, kvs, rfl, .inr ⟨o, e _ _ h⟩, k⟩
  · exact .inr ⟨a, rfl, seqT_same e h⟩
theorem Among.same {l : List Str} {y : V} {b : Bool} (e : Same H H') (h : Among K H l y b) : Among K H' l y b := by
  rcases h with h | ⟨rfl, T, ty, k⟩
  · exact .inl h
  · exact .inr ⟨rfl, T, fun H'' z => ty H'' (e.trans z), k⟩
end
/-- a wish about a thing: the errors in their order, else its answer, or the end of the run -/
def spWish (K : PySem.W.Frag) (C CS CH CN CV : Addr) (n m : Nat) (names : SS → List Str) (word : Str) : Sp := fun vs H Q E => ∃ (hd dx : Addr) (h : HS) (S : SS) (y : V) (b : Bool) (rest : List V) (cs : List Bool), vs = .ref hd :: y :: rest ∧ rest.length = m ∧ HandAt K C H hd dx h ∧ ShopAt K CS H h.sh S ∧
  h.asked ≤ h.ans.length ∧ h.ans.length ≤ 1000 ∧ Among K H (names S) y b ∧ rest.length = cs.length ∧ (∀ (i : Nat) (r : V) (c : Bool), rest[i]? = some r → cs[i]? = some c → Vn K H n r c) ∧
  ∀ H', Same H H' → (h.halted = true → E (.ref CH) none H') ∧ (h.halted = false → b = false → EX E CN "name" y H') ∧
    (h.halted = false → b = true → ∀ (i : Nat) (r : V), rest[i]? = some r → cs[i]? = some false → (∀ j, j < i → cs[j]? = some true) → EX E CV "value" r H') ∧
    (h.halted = false → b = true → cs.all id = true → (∀ v, h.ans[h.asked]? = some v → Q v (upd H' hd (.ins C dx { h with asked := h.asked + 1 }.fs))) ∧
      ∀ t, H' t = some (.tup (.str word :: y :: rest)) → h.asked = h.ans.length → E (.ref CH) none (upd H' hd (.ins C dx { h with pend := .ref t, halted := true }.fs)))
/-- the parts of a hand's methods -/
structure Parts (P : Program) (w : World) (K : PySem.W.Frag) (mg : Str → Option Value) (base : Heap) (C CH CN CV : Addr) (n : Nat) : Prop where
  c : ∃ fC, FnR P w K mg base (L2.CX P w) (n + 4) fC (fun vs H Q E => ∃ ws rest, vs = ws ++ rest ∧ ws.length = (["hand", "names", "name"] : List Str).length ∧ rest.length ≤ sizeLine ∧ ∀ p, H p = Option.none → spCallB K C CH CN CV n (ws ++ [V.ref p]) (upd H p (.tup rest)) Q E) ∧
    mg "check_call" = some (.ref fC) ∧ PySem.W.keepIn K (.ref fC) = true
  a : ∃ fA fdA, FnOk P w K mg base (L2.CX P w) 2 fA fdA ["hand", "wish"] (spAsk K C CH) ∧ mg "ask" = some (.ref fA) ∧ PySem.W.keepIn K (.ref fA) = true ∧ Binds K fdA ["hand", "wish"] []
section
variable {P : Program} {w : World} {K : PySem.W.Frag} {mg : Str → Option Value} {base : Heap} {C CS CH CN CV : Addr} {n : Nat}
abbrev s_look : Stmt := inClass (top 26) 1
theorem sc_look : FnScope ["self", "cell"] ["self", "cell"] (defScope s_look) := ⟨rfl, rfl, rfl, by decide +kernel, rfl, by decide +kernel, by decide +kernel⟩
theorem ok_look {f : Addr} {fd : FuncData} (F : Fun K "look" "Hand.look" s_look f fd) (T : HTxt K C) (TS : STxt K CS) (Z : Parts P w K mg base C CH CN CV n) : FnOk P w K mg base (L2.CX P w) (n + 5) f fd ["self", "cell"] (spWish K C CS CH CN CV n 0 SS.cellN "look") := by
  obtain ⟨fC, GC, mC, kC⟩ := Z.c
  obtain ⟨fA, fdA, GA, mA, kA, bA⟩ := Z.a
  refine F.okX sc_look (fun vs H Q E h => ?_) (fun cdv A outer s H vs Q E hr h => ?_)
  · obtain ⟨hd, dx, h, S, y, b, rest, cs, rfl, hm, _⟩ := h
    show rest.length + 1 + 1 = 2
    rw [hm]
  · obtain ⟨hd, dx, h, S, y, b, rest, cs, rfl, hm, hA, hS, le, few, hY, hl, hR, kk⟩ := h
    obtain rfl : rest = [] := List.length_eq_zero_iff.mp hm
    have hr2 : Room 2 _ := hr.mono (by omega)
    refine ⟨_, pss_cons (ps_expr (pe_callR GC hr kC rfl mC (passes_call (takes_of (E := E) rfl rfl rfl rfl) fun _ _ _ _ z => z) (pa_cons (pv 0) (pa_cons (pe_fld (pe_fld (pv 0) rfl) rfl) (pa_cons (pv 1) pa_nil)))))
      (pss_one (ps_ret (pe_callS GA hr2 rfl mA kA bA (fun σ => passAt (takes_of (E := E) rfl rfl rfl rfl) σ) (pa_cons (pv 0) (pa_cons (pe_tup (pa_cons pe_str (pa_cons (pv 1) pa_nil))) pa_nil))))), ?_⟩
    refine ⟨_, rfl, _, rfl, hd, C, dx, _, _, rfl, hA.ob, T.cl, T.shop, hF_get1, h.sh, CS, S.dx, _, _, rfl, hS.ob, TS.cl, TS.cells, sF_get1, _, rfl, [.ref hd, .ref S.cd, y], [], rfl, rfl, by show 0 ≤ sizeLine; rw [sizeLine_eq]; decide, fun p hp => ?_⟩
    have e1 := same_new (o := .tup []) hp
    refine ⟨hd, dx, p, h, .ref S.cd, y, S.cellN, b, [], cs, rfl, upd_same, hl, by show 0 ≤ 1000; decide, hA.same e1, .inl ⟨S.cd, _, rfl, .inl (e1 _ _ hS.c), hS.cn⟩, hY.same e1, fun i r c h1 h2 => (hR i r c h1 h2).same e1, (kk _ e1).1, (kk _ e1).2.1, fun nh hb H' e => ⟨(kk H' (e1.trans e)).2.2.1 nh hb, fun good => ?_⟩⟩
    have e2 := e1.trans e
    refine ⟨_, rfl, _, rfl, by show 2 ≤ sizeLine; rw [sizeLine_eq]; decide, fun t ht => ?_⟩
    have e3 := e2.trans (same_new (o := .tup (.str "look" :: y :: [])) ht)
    obtain ⟨q1, q2⟩ := (kk _ e3).2.2.2 nh hb good
    exact ⟨hd, dx, h, .ref t, rfl, hA.same e3, le, few, q1, q2 t upd_same⟩
abbrev s_put : Stmt := inClass (top 26) 2
theorem sc_put : FnScope ["self", "cell", "value"] ["self", "cell", "value"] (defScope s_put) := ⟨rfl, rfl, rfl, by decide +kernel, rfl, by decide +kernel, by decide +kernel⟩
theorem ok_put {f : Addr} {fd : FuncData} (F : Fun K "put" "Hand.put" s_put f fd) (T : HTxt K C) (TS : STxt K CS) (Z : Parts P w K mg base C CH CN CV n) : FnOk P w K mg base (L2.CX P w) (n + 5) f fd ["self", "cell", "value"] (spWish K C CS CH CN CV n 1 SS.cellN "put") := by
  obtain ⟨fC, GC, mC, kC⟩ := Z.c
  obtain ⟨fA, fdA, GA, mA, kA, bA⟩ := Z.a
  refine F.okX sc_put (fun vs H Q E h => ?_) (fun cdv A outer s H vs Q E hr h => ?_)
  · obtain ⟨hd, dx, h, S, y, b, rest, cs, rfl, hm, _⟩ := h
    show rest.length + 1 + 1 = 3
    rw [hm]
  · obtain ⟨hd, dx, h, S, y, b, rest, cs, rfl, hm, hA, hS, le, few, hY, hl, hR, kk⟩ := h
    obtain ⟨r1, rfl⟩ := List.length_eq_one_iff.mp hm
    have hr2 : Room 2 _ := hr.mono (by omega)
    refine ⟨_, pss_cons (ps_expr (pe_callR GC hr kC rfl mC (passes_call (takes_of (E := E) rfl rfl rfl rfl) fun _ _ _ _ z => z) (pa_cons (pv 0) (pa_cons (pe_fld (pe_fld (pv 0) rfl) rfl) (pa_cons (pv 1) (pa_cons (pv 2) pa_nil))))))
      (pss_one (ps_ret (pe_callS GA hr2 rfl mA kA bA (fun σ => passAt (takes_of (E := E) rfl rfl rfl rfl) σ) (pa_cons (pv 0) (pa_cons (pe_tup (pa_cons pe_str (pa_cons (pv 1) (pa_cons (pv 2) pa_nil)))) pa_nil))))), ?_⟩
    refine ⟨_, rfl, _, rfl, hd, C, dx, _, _, rfl, hA.ob, T.cl, T.shop, hF_get1, h.sh, CS, S.dx, _, _, rfl, hS.ob, TS.cl, TS.cells, sF_get1, _, rfl, _, rfl, [.ref hd, .ref S.cd, y], [r1], rfl, rfl, by show 1 ≤ sizeLine; rw [sizeLine_eq]; decide, fun p hp => ?_⟩
    have e1 := same_new (o := .tup [r1]) hp
    refine ⟨hd, dx, p, h, .ref S.cd, y, S.cellN, b, [r1], cs, rfl, upd_same, hl, by show 1 ≤ 1000; decide, hA.same e1, .inl ⟨S.cd, _, rfl, .inl (e1 _ _ hS.c), hS.cn⟩, hY.same e1, fun i r c h1 h2 => (hR i r c h1 h2).same e1, (kk _ e1).1, (kk _ e1).2.1, fun nh hb H' e => ⟨(kk H' (e1.trans e)).2.2.1 nh hb, fun good => ?_⟩⟩
    have e2 := e1.trans e
    refine ⟨_, rfl, _, rfl, _, rfl, by show 3 ≤ sizeLine; rw [sizeLine_eq]; decide, fun t ht => ?_⟩
    have e3 := e2.trans (same_new (o := .tup (.str "put" :: y :: [r1])) ht)
    obtain ⟨q1, q2⟩ := (kk _ e3).2.2.2 nh hb good
    exact ⟨hd, dx, h, .ref t, rfl, hA.same e3, le, few, q1, q2 t upd_same⟩
abbrev s_swap : Stmt := inClass (top 26) 3
theorem sc_swap : FnScope ["self", "cell", "value"] ["self", "cell", "value"] (defScope s_swap) := ⟨rfl, rfl, rfl, by decide +kernel, rfl, by decide +kernel, by decide +kernel⟩
theorem ok_swap {f : Addr} {fd : FuncData} (F : Fun K "swap" "Hand.swap" s_swap f fd) (T : HTxt K C) (TS : STxt K CS) (Z : Parts P w K mg base C CH CN CV n) : FnOk P w K mg base (L2.CX P w) (n + 5) f fd ["self", "cell", "value"] (spWish K C CS CH CN CV n 1 SS.cellN "swap") := by
  obtain ⟨fC, GC, mC, kC⟩ := Z.c
  obtain ⟨fA, fdA, GA, mA, kA, bA⟩ := Z.a
  refine F.okX sc_swap (fun vs H Q E h => ?_) (fun cdv A outer s H vs Q E hr h => ?_)
  · obtain ⟨hd, dx, h, S, y, b, rest, cs, rfl, hm, _⟩ := h
    show rest.length + 1 + 1 = 3
    rw [hm]
  · obtain ⟨hd, dx, h, S, y, b, rest, cs, rfl, hm, hA, hS, le, few, hY, hl, hR, kk⟩ := h
    obtain ⟨r1, rfl⟩ := List.length_eq_one_iff.mp hm
    have hr2 : Room 2 _ := hr.mono (by omega)
    refine ⟨_, pss_cons (ps_expr (pe_callR GC hr kC rfl mC (passes_call (takes_of (E := E) rfl rfl rfl rfl) fun _ _ _ _ z => z) (pa_cons (pv 0) (pa_cons (pe_fld (pe_fld (pv 0) rfl) rfl) (pa_cons (pv 1) (pa_cons (pv 2) pa_nil))))))
      (pss_one (ps_ret (pe_callS GA hr2 rfl mA kA bA (fun σ => passAt (takes_of (E := E) rfl rfl rfl rfl) σ) (pa_cons (pv 0) (pa_cons (pe_tup (pa_cons pe_str (pa_cons (pv 1) (pa_cons (pv 2) pa_nil)))) pa_nil))))), ?_⟩
    refine ⟨_, rfl, _, rfl, hd, C, dx, _, _, rfl, hA.ob, T.cl, T.shop, hF_get1, h.sh, CS, S.dx, _, _, rfl, hS.ob, TS.cl, TS.cells, sF_get1, _, rfl, _, rfl, [.ref hd, .ref S.cd, y], [r1], rfl, rfl, by show 1 ≤ sizeLine; rw [sizeLine_eq]; decide, fun p hp => ?_⟩
    have e1 := same_new (o := .tup [r1]) hp
    refine ⟨hd, dx, p, h, .ref S.cd, y, S.cellN, b, [r1], cs, rfl, upd_same, hl, by show 1 ≤ 1000; decide, hA.same e1, .inl ⟨S.cd, _, rfl, .inl (e1 _ _ hS.c), hS.cn⟩, hY.same e1, fun i r c h1 h2 => (hR i r c h1 h2).same e1, (kk _ e1).1, (kk _ e1).2.1, fun nh hb H' e => ⟨(kk H' (e1.trans e)).2.2.1 nh hb, fun good => ?_⟩⟩
    have e2 := e1.trans e
    refine ⟨_, rfl, _, rfl, _, rfl, by show 3 ≤ sizeLine; rw [sizeLine_eq]; decide, fun t ht => ?_⟩
    have e3 := e2.trans (same_new (o := .tup (.str "swap" :: y :: [r1])) ht)
    obtain ⟨q1, q2⟩ := (kk _ e3).2.2.2 nh hb good
    exact ⟨hd, dx, h, .ref t, rfl, hA.same e3, le, few, q1, q2 t upd_same⟩
abbrev s_trade : Stmt := inClass (top 26) 4
theorem sc_trade : FnScope ["self", "cell", "old", "value"] ["self", "cell", "old", "value"] (defScope s_trade) := ⟨rfl, rfl, rfl, by decide +kernel, rfl, by decide +kernel, by decide +kernel⟩
theorem ok_trade {f : Addr} {fd : FuncData} (F : Fun K "trade" "Hand.trade" s_trade f fd) (T : HTxt K C) (TS : STxt K CS) (Z : Parts P w K mg base C CH CN CV n) : FnOk P w K mg base (L2.CX P w) (n + 5) f fd ["self", "cell", "old", "value"] (spWish K C CS CH CN CV n 2 SS.cellN "trade") := by
  obtain ⟨fC, GC, mC, kC⟩ := Z.c
  obtain ⟨fA, fdA, GA, mA, kA, bA⟩ := Z.a
  refine F.okX sc_trade (fun vs H Q E h => ?_) (fun cdv A outer s H vs Q E hr h => ?_)
  · obtain ⟨hd, dx, h, S, y, b, rest, cs, rfl, hm, _⟩ := h
    show rest.length + 1 + 1 = 4
    rw [hm]
  · obtain ⟨hd, dx, h, S, y, b, rest, cs, rfl, hm, hA, hS, le, few, hY, hl, hR, kk⟩ := h
    obtain ⟨r1, r2, rfl⟩ : ∃ r1 r2, rest = [r1, r2] := by
      match rest, hm with
      | [a, b], _ => exact ⟨a, b, rfl⟩
    have hr2 : Room 2 _ := hr.mono (by omega)
    refine ⟨_, pss_cons (ps_expr (pe_callR GC hr kC rfl mC (passes_call (takes_of (E := E) rfl rfl rfl rfl) fun _ _ _ _ z => z) (pa_cons (pv 0) (pa_cons (pe_fld (pe_fld (pv 0) rfl) rfl) (pa_cons (pv 1) (pa_cons (pv 2) (pa_cons (pv 3) pa_nil)))))))
      (pss_one (ps_ret (pe_callS GA hr2 rfl mA kA bA (fun σ => passAt (takes_of (E := E) rfl rfl rfl rfl) σ) (pa_cons (pv 0) (pa_cons (pe_tup (pa_cons pe_str (pa_cons (pv 1) (pa_cons (pv 2) (pa_cons (pv 3) pa_nil))))) pa_nil))))), ?_⟩
    refine ⟨_, rfl, _, rfl, hd, C, dx, _, _, rfl, hA.ob, T.cl, T.shop, hF_get1, h.sh, CS, S.dx, _, _, rfl, hS.ob, TS.cl, TS.cells, sF_get1, _, rfl, _, rfl, _, rfl, [.ref hd, .ref S.cd, y], [r1, r2], rfl, rfl, by show 2 ≤ sizeLine; rw [sizeLine_eq]; decide, fun p hp => ?_⟩
    have e1 := same_new (o := .tup [r1, r2]) hp
    refine ⟨hd, dx, p, h, .ref S.cd, y, S.cellN, b, [r1, r2], cs, rfl, upd_same, hl, by show 2 ≤ 1000; decide, hA.same e1, .inl ⟨S.cd, _, rfl, .inl (e1 _ _ hS.c), hS.cn⟩, hY.same e1, fun i r c h1 h2 => (hR i r c h1 h2).same e1, (kk _ e1).1, (kk _ e1).2.1, fun nh hb H' e => ⟨(kk H' (e1.trans e)).2.2.1 nh hb, fun good => ?_⟩⟩
    have e2 := e1.trans e
    refine ⟨_, rfl, _, rfl, _, rfl, _, rfl, by show 4 ≤ sizeLine; rw [sizeLine_eq]; decide, fun t ht => ?_⟩
    have e3 := e2.trans (same_new (o := .tup (.str "trade" :: y :: [r1, r2])) ht)
    obtain ⟨q1, q2⟩ := (kk _ e3).2.2.2 nh hb good
    exact ⟨hd, dx, h, .ref t, rfl, hA.same e3, le, few, q1, q2 t upd_same⟩
abbrev s_until : Stmt := inClass (top 26) 5
theorem sc_until : FnScope ["self", "cell", "value"] ["self", "cell", "value"] (defScope s_until) := ⟨rfl, rfl, rfl, by decide +kernel, rfl, by decide +kernel, by decide +kernel⟩
theorem ok_until {f : Addr} {fd : FuncData} (F : Fun K "until" "Hand.until" s_until f fd) (T : HTxt K C) (TS : STxt K CS) (Z : Parts P w K mg base C CH CN CV n) : FnOk P w K mg base (L2.CX P w) (n + 5) f fd ["self", "cell", "value"] (spWish K C CS CH CN CV n 1 SS.cellN "until") := by
  obtain ⟨fC, GC, mC, kC⟩ := Z.c
  obtain ⟨fA, fdA, GA, mA, kA, bA⟩ := Z.a
  refine F.okX sc_until (fun vs H Q E h => ?_) (fun cdv A outer s H vs Q E hr h => ?_)
  · obtain ⟨hd, dx, h, S, y, b, rest, cs, rfl, hm, _⟩ := h
    show rest.length + 1 + 1 = 3
    rw [hm]
  · obtain ⟨hd, dx, h, S, y, b, rest, cs, rfl, hm, hA, hS, le, few, hY, hl, hR, kk⟩ := h
    obtain ⟨r1, rfl⟩ := List.length_eq_one_iff.mp hm
    have hr2 : Room 2 _ := hr.mono (by omega)
    refine ⟨_, pss_cons (ps_expr (pe_callR GC hr kC rfl mC (passes_call (takes_of (E := E) rfl rfl rfl rfl) fun _ _ _ _ z => z) (pa_cons (pv 0) (pa_cons (pe_fld (pe_fld (pv 0) rfl) rfl) (pa_cons (pv 1) (pa_cons (pv 2) pa_nil))))))
      (pss_one (ps_ret (pe_callS GA hr2 rfl mA kA bA (fun σ => passAt (takes_of (E := E) rfl rfl rfl rfl) σ) (pa_cons (pv 0) (pa_cons (pe_tup (pa_cons pe_str (pa_cons (pv 1) (pa_cons (pv 2) pa_nil)))) pa_nil))))), ?_⟩
    refine ⟨_, rfl, _, rfl, hd, C, dx, _, _, rfl, hA.ob, T.cl, T.shop, hF_get1, h.sh, CS, S.dx, _, _, rfl, hS.ob, TS.cl, TS.cells, sF_get1, _, rfl, _, rfl, [.ref hd, .ref S.cd, y], [r1], rfl, rfl, by show 1 ≤ sizeLine; rw [sizeLine_eq]; decide, fun p hp => ?_⟩
    have e1 := same_new (o := .tup [r1]) hp
    refine ⟨hd, dx, p, h, .ref S.cd, y, S.cellN, b, [r1], cs, rfl, upd_same, hl, by show 1 ≤ 1000; decide, hA.same e1, .inl ⟨S.cd, _, rfl, .inl (e1 _ _ hS.c), hS.cn⟩, hY.same e1, fun i r c h1 h2 => (hR i r c h1 h2).same e1, (kk _ e1).1, (kk _ e1).2.1, fun nh hb H' e => ⟨(kk H' (e1.trans e)).2.2.1 nh hb, fun good => ?_⟩⟩
    have e2 := e1.trans e
    refine ⟨_, rfl, _, rfl, _, rfl, by show 3 ≤ sizeLine; rw [sizeLine_eq]; decide, fun t ht => ?_⟩
    have e3 := e2.trans (same_new (o := .tup (.str "until" :: y :: [r1])) ht)
    obtain ⟨q1, q2⟩ := (kk _ e3).2.2.2 nh hb good
    exact ⟨hd, dx, h, .ref t, rfl, hA.same e3, le, few, q1, q2 t upd_same⟩
abbrev s_lay : Stmt := inClass (top 26) 9
theorem sc_lay : FnScope ["self", "belt", "value"] ["self", "belt", "value"] (defScope s_lay) := ⟨rfl, rfl, rfl, by decide +kernel, rfl, by decide +kernel, by decide +kernel⟩
theorem ok_lay {f : Addr} {fd : FuncData} (F : Fun K "lay" "Hand.lay" s_lay f fd) (T : HTxt K C) (TS : STxt K CS) (Z : Parts P w K mg base C CH CN CV n) : FnOk P w K mg base (L2.CX P w) (n + 5) f fd ["self", "belt", "value"] (spWish K C CS CH CN CV n 1 SS.beltN "lay") := by
  obtain ⟨fC, GC, mC, kC⟩ := Z.c
  obtain ⟨fA, fdA, GA, mA, kA, bA⟩ := Z.a
  refine F.okX sc_lay (fun vs H Q E h => ?_) (fun cdv A outer s H vs Q E hr h => ?_)
  · obtain ⟨hd, dx, h, S, y, b, rest, cs, rfl, hm, _⟩ := h
    show rest.length + 1 + 1 = 3
    rw [hm]
  · obtain ⟨hd, dx, h, S, y, b, rest, cs, rfl, hm, hA, hS, le, few, hY, hl, hR, kk⟩ := h
    obtain ⟨r1, rfl⟩ := List.length_eq_one_iff.mp hm
    have hr2 : Room 2 _ := hr.mono (by omega)
    refine ⟨_, pss_cons (ps_expr (pe_callR GC hr kC rfl mC (passes_call (takes_of (E := E) rfl rfl rfl rfl) fun _ _ _ _ z => z) (pa_cons (pv 0) (pa_cons (pe_fld (pe_fld (pv 0) rfl) rfl) (pa_cons (pv 1) (pa_cons (pv 2) pa_nil))))))
      (pss_one (ps_ret (pe_callS GA hr2 rfl mA kA bA (fun σ => passAt (takes_of (E := E) rfl rfl rfl rfl) σ) (pa_cons (pv 0) (pa_cons (pe_tup (pa_cons pe_str (pa_cons (pv 1) (pa_cons (pv 2) pa_nil)))) pa_nil))))), ?_⟩
    refine ⟨_, rfl, _, rfl, hd, C, dx, _, _, rfl, hA.ob, T.cl, T.shop, hF_get1, h.sh, CS, S.dx, _, _, rfl, hS.ob, TS.cl, TS.belts, sF_get3, _, rfl, _, rfl, [.ref hd, .ref S.bd, y], [r1], rfl, rfl, by show 1 ≤ sizeLine; rw [sizeLine_eq]; decide, fun p hp => ?_⟩
    have e1 := same_new (o := .tup [r1]) hp
    refine ⟨hd, dx, p, h, .ref S.bd, y, S.beltN, b, [r1], cs, rfl, upd_same, hl, by show 1 ≤ 1000; decide, hA.same e1, .inl ⟨S.bd, _, rfl, .inl (e1 _ _ hS.b), hS.bn⟩, hY.same e1, fun i r c h1 h2 => (hR i r c h1 h2).same e1, (kk _ e1).1, (kk _ e1).2.1, fun nh hb H' e => ⟨(kk H' (e1.trans e)).2.2.1 nh hb, fun good => ?_⟩⟩
    have e2 := e1.trans e
    refine ⟨_, rfl, _, rfl, _, rfl, by show 3 ≤ sizeLine; rw [sizeLine_eq]; decide, fun t ht => ?_⟩
    have e3 := e2.trans (same_new (o := .tup (.str "lay" :: y :: [r1])) ht)
    obtain ⟨q1, q2⟩ := (kk _ e3).2.2.2 nh hb good
    exact ⟨hd, dx, h, .ref t, rfl, hA.same e3, le, few, q1, q2 t upd_same⟩
abbrev s_fetch : Stmt := inClass (top 26) 10
theorem sc_fetch : FnScope ["self", "belt"] ["self", "belt"] (defScope s_fetch) := ⟨rfl, rfl, rfl, by decide +kernel, rfl, by decide +kernel, by decide +kernel⟩
theorem ok_fetch {f : Addr} {fd : FuncData} (F : Fun K "fetch" "Hand.fetch" s_fetch f fd) (T : HTxt K C) (TS : STxt K CS) (Z : Parts P w K mg base C CH CN CV n) : FnOk P w K mg base (L2.CX P w) (n + 5) f fd ["self", "belt"] (spWish K C CS CH CN CV n 0 SS.beltN "fetch") := by
  obtain ⟨fC, GC, mC, kC⟩ := Z.c
  obtain ⟨fA, fdA, GA, mA, kA, bA⟩ := Z.a
  refine F.okX sc_fetch (fun vs H Q E h => ?_) (fun cdv A outer s H vs Q E hr h => ?_)
  · obtain ⟨hd, dx, h, S, y, b, rest, cs, rfl, hm, _⟩ := h
    show rest.length + 1 + 1 = 2
    rw [hm]
  · obtain ⟨hd, dx, h, S, y, b, rest, cs, rfl, hm, hA, hS, le, few, hY, hl, hR, kk⟩ := h
    obtain rfl : rest = [] := List.length_eq_zero_iff.mp hm
    have hr2 : Room 2 _ := hr.mono (by omega)
    refine ⟨_, pss_cons (ps_expr (pe_callR GC hr kC rfl mC (passes_call (takes_of (E := E) rfl rfl rfl rfl) fun _ _ _ _ z => z) (pa_cons (pv 0) (pa_cons (pe_fld (pe_fld (pv 0) rfl) rfl) (pa_cons (pv 1) pa_nil)))))
      (pss_one (ps_ret (pe_callS GA hr2 rfl mA kA bA (fun σ => passAt (takes_of (E := E) rfl rfl rfl rfl) σ) (pa_cons (pv 0) (pa_cons (pe_tup (pa_cons pe_str (pa_cons (pv 1) pa_nil))) pa_nil))))), ?_⟩
    refine ⟨_, rfl, _, rfl, hd, C, dx, _, _, rfl, hA.ob, T.cl, T.shop, hF_get1, h.sh, CS, S.dx, _, _, rfl, hS.ob, TS.cl, TS.belts, sF_get3, _, rfl, [.ref hd, .ref S.bd, y], [], rfl, rfl, by show 0 ≤ sizeLine; rw [sizeLine_eq]; decide, fun p hp => ?_⟩
    have e1 := same_new (o := .tup []) hp
    refine ⟨hd, dx, p, h, .ref S.bd, y, S.beltN, b, [], cs, rfl, upd_same, hl, by show 0 ≤ 1000; decide, hA.same e1, .inl ⟨S.bd, _, rfl, .inl (e1 _ _ hS.b), hS.bn⟩, hY.same e1, fun i r c h1 h2 => (hR i r c h1 h2).same e1, (kk _ e1).1, (kk _ e1).2.1, fun nh hb H' e => ⟨(kk H' (e1.trans e)).2.2.1 nh hb, fun good => ?_⟩⟩
    have e2 := e1.trans e
    refine ⟨_, rfl, _, rfl, by show 2 ≤ sizeLine; rw [sizeLine_eq]; decide, fun t ht => ?_⟩
    have e3 := e2.trans (same_new (o := .tup (.str "fetch" :: y :: [])) ht)
    obtain ⟨q1, q2⟩ := (kk _ e3).2.2.2 nh hb good
    exact ⟨hd, dx, h, .ref t, rfl, hA.same e3, le, few, q1, q2 t upd_same⟩
end
end TW
namespace TW
open PySem PySem.Spec PyProof.Rows L2
abbrev sHI : Stmt := inClass (top 26) 0
abbrev s_rest : Stmt := inClass (top 26) 11
abbrev s_say : Stmt := inClass (top 26) 12
abbrev s_fail : Stmt := inClass (top 26) 13
/-- a new hand: nothing asked as yet -/
def hs0 (me : Int) (sh an : Addr) (ans : List V) (md wl : Addr) : HS := ⟨me, sh, an, ans, 0, md, [], wl, [], .non, .non, false⟩
def spHI (K : PySem.W.Frag) (C : Addr) : Sp := fun vs H Q _ => ∃ (hd dx sh an : Addr) (me : Int) (ans : List V), vs = [.ref hd, .ref sh, .int me, .ref an] ∧ H hd = some (.ins C dx []) ∧ SqT K H an ans ∧
  ∀ (md wl : Addr) (H' : Hp), H md = none → H wl = none → (∀ b o, H b = some o → b ≠ hd → H' b = some o) → HandAt K C H' hd dx (hs0 me sh an ans md wl) → Q .non H'
def spSay (K : PySem.W.Frag) (C CH CV : Addr) (n : Nat) : Sp := fun vs H Q E => ∃ (hd dx : Addr) (h : HS) (y : V) (c : Bool), vs = [.ref hd, y] ∧ HandAt K C H hd dx h ∧ h.words.length ≤ 1000 ∧ Vn K H n y c ∧
  (h.halted = true → E (.ref CH) none H) ∧ ∀ H', Same H H' → (h.halted = false → c = false → EX E CV "value" y H') ∧ (h.halted = false → c = true → Q .non (upd H' h.wl (.lst (h.words ++ [y]))))
def spFail (K : PySem.W.Frag) (C CH CV : Addr) (n : Nat) : Sp := fun vs H Q E => ∃ (hd dx : Addr) (h : HS) (y : V) (c : Bool), vs = [.ref hd, y] ∧ HandAt K C H hd dx h ∧ Vn K H n y c ∧
  (h.halted = true → E (.ref CH) none H) ∧ ∀ H', Same H H' → (h.halted = false → c = false → EX E CV "value" y H') ∧
    ∀ t, H' t = some (.tup [.str "failed", y]) → h.halted = false → c = true → E (.ref CH) none (upd H' hd (.ins C dx { h with fin := .ref t, halted := true }.fs))
def spRest (K : PySem.W.Frag) (C CH : Addr) : Sp := fun vs H Q E => ∃ (hd dx : Addr) (h : HS), vs = [.ref hd] ∧ HandAt K C H hd dx h ∧ h.asked ≤ h.ans.length ∧ h.ans.length ≤ 1000 ∧ (h.halted = true → E (.ref CH) none H) ∧
  ∀ H', Same H H' → (h.halted = false → ∀ v, h.ans[h.asked]? = some v → Q v (upd H' hd (.ins C dx { h with asked := h.asked + 1 }.fs))) ∧
    ∀ t, H' t = some (.tup [.str "rest"]) → h.halted = false → h.asked = h.ans.length → E (.ref CH) none (upd H' hd (.ins C dx { h with pend := .ref t, halted := true }.fs))
section
variable {P : Program} {w : World} {K : PySem.W.Frag} {mg : Str → Option Value} {base : Heap} {C CS CH CN CV : Addr} {n : Nat}
theorem scHI : FnScope ["self", "shop", "me", "answers"] ["self", "shop", "me", "answers"] (defScope sHI) := ⟨rfl, rfl, rfl, by decide +kernel, rfl, by decide +kernel, by decide +kernel⟩
theorem ok_HI {f : Addr} {fd : FuncData} (F : Fun K "__init__" "Hand.__init__" sHI f fd) (T : HTxt K C) : FnOk P w K mg base CX0 1 f fd ["self", "shop", "me", "answers"] (spHI K C) := by
  refine F.ok scHI (fun vs H Q E h => ?_) (fun cdv A outer s H vs Q E hr h => ?_)
  · obtain ⟨hd, dx, sh, an, me, ans, rfl, _⟩ := h
    rfl
  · obtain ⟨hd, dx, sh, an, me, ans, rfl, ho, ha, k⟩ := h
    refine ⟨_, pss_cons (ps_fld (pv 0) (pv 2) rfl) (pss_cons (ps_fld (pv 0) (pv 1) rfl) (pss_cons (ps_fld (pv 0) (pv 3) rfl) (pss_cons (ps_fld (pv 0) pe_int rfl) (pss_cons (ps_fld (pv 0) pe_dnewK rfl) (pss_cons (ps_fld (pv 0) (pe_lst pa_nil) rfl)
      (pss_cons (ps_fld (pv 0) pe_non rfl) (pss_cons (ps_fld (pv 0) pe_non rfl) (pss_one (ps_fld (pv 0) pe_bl rfl))))))))), ?_⟩
    refine ⟨_, rfl, _, rfl, hd, C, dx, _, rfl, ho, T.cl, T.me, (by show 0 < 1000; decide), ?_⟩
    rw [hF_make0]
    refine ⟨_, rfl, _, rfl, hd, C, dx, _, rfl, upd_same, T.cl, T.shop, (by show 1 < 1000; decide), ?_⟩
    rw [hF_make1, upd_upd]
    refine ⟨_, rfl, _, rfl, hd, C, dx, _, rfl, upd_same, T.cl, T.answers, (by show 2 < 1000; decide), ?_⟩
    rw [hF_make2, upd_upd]
    refine ⟨_, rfl, hd, C, dx, _, rfl, upd_same, T.cl, T.asked, (by show 3 < 1000; decide), ?_⟩
    rw [hF_make3, upd_upd]
    intro md hmd
    have n1 : md ≠ hd := (ne_of_none upd_same hmd).symm
    refine ⟨_, rfl, hd, C, dx, _, rfl, by rw [upd_ne n1.symm]; exact upd_same, T.cl, T.mine, (by show 4 < 1000; decide), ?_⟩
    rw [hF_make4]
    refine ⟨by show 0 ≤ sizeLine; exact Nat.zero_le _, fun wl hwl => ?_⟩
    have n2 : wl ≠ hd := (ne_of_none upd_same hwl).symm
    have n3 : wl ≠ md := by
      intro z
      rw [z, upd_ne n1, upd_same] at hwl
      cases hwl
    refine ⟨_, rfl, hd, C, dx, _, rfl, by rw [upd_ne n2.symm]; exact upd_same, T.cl, T.words, (by show 5 < 1000; decide), ?_⟩
    rw [hF_make5]
    refine ⟨_, rfl, hd, C, dx, _, rfl, upd_same, T.cl, T.pending, (by show 6 < 1000; decide), ?_⟩
    rw [hF_make6, upd_upd]
    refine ⟨_, rfl, hd, C, dx, _, rfl, upd_same, T.cl, T.end_, (by show 7 < 1000; decide), ?_⟩
    rw [hF_make7, upd_upd]
    refine ⟨_, rfl, hd, C, dx, _, rfl, upd_same, T.cl, T.halted, (by show 8 < 1000; decide), ?_⟩
    rw [hF_make8, upd_upd]
    have m1 : H md = none := by
      rw [upd_ne n1] at hmd
      exact hmd
    have m2 : H wl = none := by
      rw [upd_ne n2, upd_ne n3, upd_ne n2] at hwl
      exact hwl
    have old : ∀ b o, H b = some o → b ≠ hd → upd (upd (upd (upd (upd H hd (.ins C dx [("me", .int me), ("shop", .ref sh), ("answers", .ref an), ("asked", .int 0)])) md (.dK [])) hd (.ins C dx [("me", .int me), ("shop", .ref sh), ("answers", .ref an), ("asked", .int 0), ("mine", .ref md)])) wl (.lst [])) hd
        (.ins C dx (hs0 me sh an ans md wl).fs) b = some o := fun b o e ne => by
      rw [upd_ne ne, upd_ne (ne_of_none e m2), upd_ne ne, upd_ne (ne_of_none e m1), upd_ne ne]
      exact e
    refine k md wl _ m1 m2 old ⟨upd_same, ?_, ?_, ?_⟩
    · rcases ha with (z | ⟨o, z⟩) | z
      · exact .inl (.inl (old _ _ z (ne_of z ho (by intro y; cases y))))
      · exact .inl (.inr ⟨o, old _ _ z (ne_of z ho (by intro y; cases y))⟩)
      · exact .inr z
    · show upd _ hd _ md = some (.dK [])
      rw [upd_ne n1, upd_ne n3.symm, upd_ne n1]
      exact upd_same
    · show upd _ hd _ wl = some (.lst [])
      rw [upd_ne n2]
      exact upd_same
end
end TW
namespace TW
open PySem PySem.Spec PyProof.Rows L2
/-- the short defs that a hand's methods call -/
structure Shorts (P : Program) (w : World) (K : PySem.W.Frag) (mg : Str → Option Value) (base : Heap) (C CH CV : Addr) (n : Nat) : Prop where
  g : ∃ f fd, FnOk P w K mg base (L2.CX P w) 1 f fd ["hand"] (spGoing K C CH) ∧ mg "check_going" = some (.ref f) ∧ PySem.W.keepIn K (.ref f) = true ∧ Binds K fd ["hand"] []
  v : ∃ f fd, FnOk P w K mg base (L2.CX P w) (n + 3) f fd ["given"] (spCkV K CV n) ∧ mg "check_value" = some (.ref f) ∧ PySem.W.keepIn K (.ref f) = true ∧ Binds K fd ["given"] []
  a : ∃ f fd, FnOk P w K mg base (L2.CX P w) 2 f fd ["hand", "wish"] (spAsk K C CH) ∧ mg "ask" = some (.ref f) ∧ PySem.W.keepIn K (.ref f) = true ∧ Binds K fd ["hand", "wish"] []
  h : ∃ f fd, FnOk P w K mg base (L2.CX P w) 1 f fd ["hand"] (spHalt K C CH) ∧ mg "halt" = some (.ref f) ∧ PySem.W.keepIn K (.ref f) = true ∧ Binds K fd ["hand"] []
section
variable {P : Program} {w : World} {K : PySem.W.Frag} {mg : Str → Option Value} {base : Heap} {C CS CH CN CV : Addr} {n : Nat}
theorem sc_say : FnScope ["self", "value"] ["self", "value"] (defScope s_say) := ⟨rfl, rfl, rfl, by decide +kernel, rfl, by decide +kernel, by decide +kernel⟩
theorem ok_say {f : Addr} {fd : FuncData} (F : Fun K "say" "Hand.say" s_say f fd) (T : HTxt K C) (Z : Shorts P w K mg base C CH CV n) : FnOk P w K mg base (L2.CX P w) (n + 4) f fd ["self", "value"] (spSay K C CH CV n) := by
  obtain ⟨fG, fdG, GG, mG, kG, bG⟩ := Z.g
  obtain ⟨fV, fdV, GV, mV, kV, bV⟩ := Z.v
  refine F.okX sc_say (fun vs H Q E h => ?_) (fun cdv A outer s H vs Q E hr h => ?_)
  · obtain ⟨hd, dx, h, y, c, rfl, _⟩ := h
    rfl
  · obtain ⟨hd, dx, h, y, c, rfl, hA, few, hV, k1, k2⟩ := h
    have hr1 : Room 1 _ := hr.mono (by omega)
    refine ⟨_, pss_cons (ps_expr (pe_callS GG hr1 rfl mG kG bG (fun σ => passAt (takes_of (E := E) rfl rfl rfl rfl) σ) (pa_cons (pv 0) pa_nil)))
      (pss_cons (ps_expr (pe_callS GV hr rfl mV kV bV (fun σ => passAt (takes_of (E := E) rfl rfl rfl rfl) σ) (pa_cons (pv 1) pa_nil)))
      (pss_one (ps_expr (pe_bm PySem.F.plainAttrs_list PySem.F.slot_list_append PySem.F.type_list_append mt_append (pe_fld (pv 0) rfl) (pa_cons (pv 1) pa_nil))))), ?_⟩
    refine ⟨_, rfl, hd, dx, h, rfl, hA, fun nh => ?_, fun hh => k1 hh⟩
    refine ⟨_, rfl, y, c, rfl, hV, fun H' e => ⟨fun hc => ?_, fun hc => (k2 H' e).1 nh hc⟩⟩
    have hB := hA.same e
    refine ⟨_, rfl, hd, C, dx, _, _, rfl, hB.ob, T.cl, T.words, hF_get5, .inl ⟨rfl, _, SqL.of hB.w⟩, _, rfl, h.wl, _, _, rfl, rfl, hB.w, ?_, (k2 H' e).2 nh hc⟩
    rw [sizeLine_eq]
    omega
theorem sc_fail : FnScope ["self", "value"] ["self", "value"] (defScope s_fail) := ⟨rfl, rfl, rfl, by decide +kernel, rfl, by decide +kernel, by decide +kernel⟩
theorem sc_rest : FnScope ["self"] ["self"] (defScope s_rest) := ⟨rfl, rfl, rfl, by decide +kernel, rfl, by decide +kernel, by decide +kernel⟩
theorem ok_rest {f : Addr} {fd : FuncData} (F : Fun K "rest" "Hand.rest" s_rest f fd) (T : HTxt K C) (Z : Shorts P w K mg base C CH CV n) : FnOk P w K mg base (L2.CX P w) 3 f fd ["self"] (spRest K C CH) := by
  obtain ⟨fG, fdG, GG, mG, kG, bG⟩ := Z.g
  obtain ⟨fA, fdA, GA, mA, kA, bA⟩ := Z.a
  refine F.okX sc_rest (fun vs H Q E h => ?_) (fun cdv A outer s H vs Q E hr h => ?_)
  · obtain ⟨hd, dx, h, rfl, _⟩ := h
    rfl
  · obtain ⟨hd, dx, h, rfl, hA, le, few, k1, k2⟩ := h
    have hr1 : Room 1 _ := hr.mono (by omega)
    refine ⟨_, pss_cons (ps_expr (pe_callS GG hr1 rfl mG kG bG (fun σ => passAt (takes_of (E := E) rfl rfl rfl rfl) σ) (pa_cons (pv 0) pa_nil)))
      (pss_one (ps_ret (pe_callS GA hr rfl mA kA bA (fun σ => passAt (takes_of (E := E) rfl rfl rfl rfl) σ) (pa_cons (pv 0) (pa_cons (pe_tup (pa_cons pe_str pa_nil)) pa_nil))))), ?_⟩
    refine ⟨_, rfl, hd, dx, h, rfl, hA, fun nh => ?_, fun hh => k1 hh⟩
    refine ⟨_, rfl, by show 1 ≤ sizeLine; rw [sizeLine_eq]; decide, fun t ht => ?_⟩
    have e := same_new (o := .tup [.str "rest"]) ht
    exact ⟨hd, dx, h, .ref t, rfl, hA.same e, le, few, (k2 _ e).1 nh, (k2 _ e).2 t upd_same nh⟩
end
end TW
namespace TW
open PySem PySem.Spec PyProof.Rows L2
theorem tF_n0_1 : ¬ (("cells" : Str) = "holders") := by decide +kernel
theorem tF_n0_2 : ¬ (("cells" : Str) = "rows") := by decide +kernel
theorem tF_n0_3 : ¬ (("cells" : Str) = "sizes") := by decide +kernel
theorem tF_n1_0 : ¬ (("holders" : Str) = "cells") := by decide +kernel
theorem tF_n1_2 : ¬ (("holders" : Str) = "rows") := by decide +kernel
theorem tF_n1_3 : ¬ (("holders" : Str) = "sizes") := by decide +kernel
theorem tF_n2_0 : ¬ (("rows" : Str) = "cells") := by decide +kernel
theorem tF_n2_1 : ¬ (("rows" : Str) = "holders") := by decide +kernel
theorem tF_n2_3 : ¬ (("rows" : Str) = "sizes") := by decide +kernel
theorem tF_n3_0 : ¬ (("sizes" : Str) = "cells") := by decide +kernel
theorem tF_n3_1 : ¬ (("sizes" : Str) = "holders") := by decide +kernel
theorem tF_n3_2 : ¬ (("sizes" : Str) = "rows") := by decide +kernel
/-- the attributes of a tF, in the order in which __init__ stores them -/
def tF (v0 v1 v2 v3 : V) : List (Str × V) := [("cells", v0), ("holders", v1), ("rows", v2), ("sizes", v3)]
theorem tF_get0 {v0 v1 v2 v3 : V} : (tF v0 v1 v2 v3).lookup ("cells" : Str) = some v0 := by
  unfold tF
  rw [lookup_put, if_pos rfl]
theorem tF_put0 {v0 v1 v2 v3 z : V} : putF "cells" z (tF v0 v1 v2 v3) = tF z v1 v2 v3 := by
  unfold tF
  simp only [putF, if_true]
theorem tF_get1 {v0 v1 v2 v3 : V} : (tF v0 v1 v2 v3).lookup ("holders" : Str) = some v1 := by
  unfold tF
  rw [lookup_put, if_neg tF_n1_0, lookup_put, if_pos rfl]
theorem tF_put1 {v0 v1 v2 v3 z : V} : putF "holders" z (tF v0 v1 v2 v3) = tF v0 z v2 v3 := by
  unfold tF
  simp only [putF, if_neg tF_n0_1, if_true]
theorem tF_get2 {v0 v1 v2 v3 : V} : (tF v0 v1 v2 v3).lookup ("rows" : Str) = some v2 := by
  unfold tF
  rw [lookup_put, if_neg tF_n2_0, lookup_put, if_neg tF_n2_1, lookup_put, if_pos rfl]
theorem tF_put2 {v0 v1 v2 v3 z : V} : putF "rows" z (tF v0 v1 v2 v3) = tF v0 v1 z v3 := by
  unfold tF
  simp only [putF, if_neg tF_n0_2, if_neg tF_n1_2, if_true]
theorem tF_get3 {v0 v1 v2 v3 : V} : (tF v0 v1 v2 v3).lookup ("sizes" : Str) = some v3 := by
  unfold tF
  rw [lookup_put, if_neg tF_n3_0, lookup_put, if_neg tF_n3_1, lookup_put, if_neg tF_n3_2, lookup_put, if_pos rfl]
theorem tF_put3 {v0 v1 v2 v3 z : V} : putF "sizes" z (tF v0 v1 v2 v3) = tF v0 v1 v2 z := by
  unfold tF
  simp only [putF, if_neg tF_n0_3, if_neg tF_n1_3, if_neg tF_n2_3, if_true]
theorem tF_make0 {v0 : V} : putF "cells" v0 ([] : List (Str × V)) = ([("cells", v0)] : List (Str × V)) := rfl
theorem tF_make1 {v0 v1 : V} : putF "holders" v1 ([("cells", v0)] : List (Str × V)) = ([("cells", v0), ("holders", v1)] : List (Str × V)) := by
  simp only [putF, if_neg tF_n0_1, if_true]
theorem tF_make2 {v0 v1 v2 : V} : putF "rows" v2 ([("cells", v0), ("holders", v1)] : List (Str × V)) = ([("cells", v0), ("holders", v1), ("rows", v2)] : List (Str × V)) := by
  simp only [putF, if_neg tF_n0_2, if_neg tF_n1_2, if_true]
theorem tF_make3 {v0 v1 v2 v3 : V} : putF "sizes" v3 ([("cells", v0), ("holders", v1), ("rows", v2)] : List (Str × V)) = ([("cells", v0), ("holders", v1), ("rows", v2), ("sizes", v3)] : List (Str × V)) := by
  simp only [putF, if_neg tF_n0_3, if_neg tF_n1_3, if_neg tF_n2_3, if_true]
theorem tF_no {v0 v1 v2 v3 : V} {m : Str} (h0 : ¬ m = ("cells" : Str)) (h1 : ¬ m = ("holders" : Str)) (h2 : ¬ m = ("rows" : Str)) (h3 : ¬ m = ("sizes" : Str)) : (tF v0 v1 v2 v3).lookup m = none := by
  unfold tF
  rw [lookup_put, if_neg h0, lookup_put, if_neg h1, lookup_put, if_neg h2, lookup_put, if_neg h3]
  rfl

/-- the things of a run -/
structure TS where
  dx : Addr
  cd : Addr
  cells : List (Key × V)
  hd : Addr
  holders : List (Key × V)
  rd : Addr
  rows : List (Key × V)
  sd : Addr
  sizes : List (Key × V)
structure ThingsAt (K : PySem.W.Frag) (C : Addr) (H : Hp) (th : Addr) (T : TS) : Prop where
  ob : H th = some (.ins C T.dx (tF (.ref T.cd) (.ref T.hd) (.ref T.rd) (.ref T.sd)))
  c : H T.cd = some (.dK T.cells)
  h : H T.hd = some (.dK T.holders)
  r : H T.rd = some (.dK T.rows)
  s : H T.sd = some (.dK T.sizes)
structure TTxt (K : PySem.W.Frag) (C : Addr) : Prop where
  cl : Cls K C
  cells : NoAttr K C "cells"
  holders : NoAttr K C "holders"
  rows : NoAttr K C "rows"
  sizes : NoAttr K C "sizes"
/-- a step of a wish (word, s, ..) upon the things -/
def spStep (K : PySem.W.Frag) (C : Addr) (does : TS → Int → Str → List V → Hp → VK → Prop) : Sp := fun vs H Q _ => ∃ (th wt : Addr) (k : Int) (T : TS) (word s : Str) (rest : List V), vs = [.ref th, .int k, .ref wt] ∧ ThingsAt K C H th T ∧ SqT K H wt (.str word :: .str s :: rest) ∧ does T k s rest H Q
abbrev dLook : TS → Int → Str → List V → Hp → VK → Prop := fun T _ s _ H Q => ∃ v, valV T.cells (Sum.inr s) = some v ∧ Q v H
abbrev dPut : TS → Int → Str → List V → Hp → VK → Prop := fun T _ s rest H Q => ∃ x l, rest = x :: l ∧ T.cells.length < sizeLine ∧ Q .non (upd H T.cd (.dK (putK T.cells (Sum.inr s) x)))
abbrev dSwap : TS → Int → Str → List V → Hp → VK → Prop := fun T _ s rest H Q => ∃ x l v, rest = x :: l ∧ valV T.cells (Sum.inr s) = some v ∧ T.cells.length < sizeLine ∧ Q v (upd H T.cd (.dK (putK T.cells (Sum.inr s) x)))
abbrev dTake : TS → Int → Str → List V → Hp → VK → Prop := fun T k s _ H Q => T.holders.length < sizeLine ∧ Q .non (upd H T.hd (.dK (putK T.holders (Sum.inr s) (.int k))))
abbrev dGive : TS → Int → Str → List V → Hp → VK → Prop := fun T _ s _ H Q => T.holders.length < sizeLine ∧ Q .non (upd H T.hd (.dK (putK T.holders (Sum.inr s) .non)))
abbrev dReach : TS → Int → Str → List V → Hp → VK → Prop := fun T k s _ H Q => ∃ v, valV T.holders (Sum.inr s) = some v ∧ T.holders.length < sizeLine ∧ (v ≠ .non → Q (.bl false) H) ∧ (v = .non → Q (.bl true) (upd H T.hd (.dK (putK T.holders (Sum.inr s) (.int k)))))
section
variable {P : Program} {w : World} {K : PySem.W.Frag} {mg : Str → Option Value} {base : Heap} {C : Addr}
abbrev s_do_look : Stmt := top 38
theorem sc_do_look : FnScope ["things", "k", "wish"] ["things", "k", "wish"] (defScope s_do_look) := ⟨rfl, rfl, rfl, by decide +kernel, rfl, by decide +kernel, by decide +kernel⟩
theorem ok_do_look {f : Addr} {fd : FuncData} (F : Fun K "do_look" "do_look" s_do_look f fd) (X : TTxt K C) : FnOk P w K mg base CX0 1 f fd ["things", "k", "wish"] (spStep K C dLook) := by
  refine F.ok sc_do_look (fun vs H Q E h => ?_) (fun cdv A outer s H vs Q E hr h => ?_)
  · obtain ⟨th, wt, k, T, word, nm, rest, rfl, _⟩ := h
    rfl
  · obtain ⟨th, wt, k, T, word, nm, rest, rfl, hT, hW, hq⟩ := h
    have hu := hu_of hr
    obtain ⟨v, e, hq⟩ := hq
    refine ⟨_, pss_one (ps_ret (pe_dget hu (pe_fld (pv 0) rfl) (pe_ix ix_tup (pv 2) pe_int (fun _ _ => rfl)) (fun _ _ => rfl))), ?_⟩
    exact ⟨_, rfl, th, C, T.dx, _, _, rfl, hT.ob, X.cl, X.cells, tF_get0, _, rfl, wt, _, _, _, rfl, rfl, hW, atI_nat (j := 1) rfl, T.cd, v, rfl, e ▸ DGet.k (k := Sum.inr nm) hT.c, hq⟩
abbrev s_do_put : Stmt := top 39
theorem sc_do_put : FnScope ["things", "k", "wish"] ["things", "k", "wish"] (defScope s_do_put) := ⟨rfl, rfl, rfl, by decide +kernel, rfl, by decide +kernel, by decide +kernel⟩
theorem ok_do_put {f : Addr} {fd : FuncData} (F : Fun K "do_put" "do_put" s_do_put f fd) (X : TTxt K C) : FnOk P w K mg base CX0 1 f fd ["things", "k", "wish"] (spStep K C dPut) := by
  refine F.ok sc_do_put (fun vs H Q E h => ?_) (fun cdv A outer s H vs Q E hr h => ?_)
  · obtain ⟨th, wt, k, T, word, nm, rest, rfl, _⟩ := h
    rfl
  · obtain ⟨th, wt, k, T, word, nm, rest, rfl, hT, hW, hq⟩ := h
    have hu := hu_of hr
    obtain ⟨x, l, rfl, few, hq⟩ := hq
    refine ⟨_, pss_one (ps_dput hu (pe_fld (pv 0) rfl) (pe_ix ix_tup (pv 2) pe_int (fun _ _ => rfl)) (pe_ix ix_tup (pv 2) pe_int (fun _ _ => rfl)) rfl), ?_⟩
    exact ⟨_, rfl, wt, _, _, _, rfl, rfl, hW, atI_nat (j := 2) rfl, _, rfl, th, C, T.dx, _, _, rfl, hT.ob, X.cl, X.cells, tF_get0, _, rfl, wt, _, _, _, rfl, rfl, hW, atI_nat (j := 1) rfl, T.cd, _, rfl, DPut.k (k := Sum.inr nm) hT.c few, hq⟩
abbrev s_do_swap : Stmt := top 40
theorem sc_do_swap : FnScope ["things", "k", "wish", "was"] ["things", "k", "wish"] (defScope s_do_swap) := ⟨rfl, rfl, rfl, by decide +kernel, rfl, by decide +kernel, by decide +kernel⟩
theorem ok_do_swap {f : Addr} {fd : FuncData} (F : Fun K "do_swap" "do_swap" s_do_swap f fd) (X : TTxt K C) : FnOk P w K mg base CX0 1 f fd ["things", "k", "wish"] (spStep K C dSwap) := by
  refine F.ok sc_do_swap (fun vs H Q E h => ?_) (fun cdv A outer s H vs Q E hr h => ?_)
  · obtain ⟨th, wt, k, T, word, nm, rest, rfl, _⟩ := h
    rfl
  · obtain ⟨th, wt, k, T, word, nm, rest, rfl, hT, hW, hq⟩ := h
    have hu := hu_of hr
    obtain ⟨x, l, v, rfl, e, few, hq⟩ := hq
    refine ⟨_, pss_cons (ps_set (i := 3) sc_do_swap.nd rfl (.inl rfl) (pe_dget hu (pe_fld (pv 0) rfl) (pe_ix ix_tup (pv 2) pe_int (fun _ _ => rfl)) (fun _ _ => rfl))) (pss_cons (ps_dput hu (pe_fld (pv 0) rfl) (pe_ix ix_tup (pv 2) pe_int (fun _ _ => rfl)) (pe_ix ix_tup (pv 2) pe_int (fun _ _ => rfl)) rfl) (pss_one (ps_ret (pv 3)))), ?_⟩
    refine ⟨_, rfl, th, C, T.dx, _, _, rfl, hT.ob, X.cl, X.cells, tF_get0, _, rfl, wt, _, _, _, rfl, rfl, hW, atI_nat (j := 1) rfl, T.cd, v, rfl, e ▸ DGet.k (k := Sum.inr nm) hT.c, ?_⟩
    exact ⟨_, rfl, wt, _, _, _, rfl, rfl, hW, atI_nat (j := 2) rfl, _, rfl, th, C, T.dx, _, _, rfl, hT.ob, X.cl, X.cells, tF_get0, _, rfl, wt, _, _, _, rfl, rfl, hW, atI_nat (j := 1) rfl, T.cd, _, rfl, DPut.k (k := Sum.inr nm) hT.c few, _, rfl, hq⟩
abbrev s_do_take : Stmt := top 42
theorem sc_do_take : FnScope ["things", "k", "wish"] ["things", "k", "wish"] (defScope s_do_take) := ⟨rfl, rfl, rfl, by decide +kernel, rfl, by decide +kernel, by decide +kernel⟩
theorem ok_do_take {f : Addr} {fd : FuncData} (F : Fun K "do_take" "do_take" s_do_take f fd) (X : TTxt K C) : FnOk P w K mg base CX0 1 f fd ["things", "k", "wish"] (spStep K C dTake) := by
  refine F.ok sc_do_take (fun vs H Q E h => ?_) (fun cdv A outer s H vs Q E hr h => ?_)
  · obtain ⟨th, wt, k, T, word, nm, rest, rfl, _⟩ := h
    rfl
  · obtain ⟨th, wt, k, T, word, nm, rest, rfl, hT, hW, hq⟩ := h
    have hu := hu_of hr
    obtain ⟨few, hq⟩ := hq
    refine ⟨_, pss_one (ps_dput hu (pe_fld (pv 0) rfl) (pe_ix ix_tup (pv 2) pe_int (fun _ _ => rfl)) (pv 1) rfl), ?_⟩
    exact ⟨_, rfl, _, rfl, th, C, T.dx, _, _, rfl, hT.ob, X.cl, X.holders, tF_get1, _, rfl, wt, _, _, _, rfl, rfl, hW, atI_nat (j := 1) rfl, T.hd, _, rfl, DPut.k (k := Sum.inr nm) hT.h few, hq⟩
abbrev s_do_give : Stmt := top 43
theorem sc_do_give : FnScope ["things", "k", "wish"] ["things", "k", "wish"] (defScope s_do_give) := ⟨rfl, rfl, rfl, by decide +kernel, rfl, by decide +kernel, by decide +kernel⟩
theorem ok_do_give {f : Addr} {fd : FuncData} (F : Fun K "do_give" "do_give" s_do_give f fd) (X : TTxt K C) : FnOk P w K mg base CX0 1 f fd ["things", "k", "wish"] (spStep K C dGive) := by
  refine F.ok sc_do_give (fun vs H Q E h => ?_) (fun cdv A outer s H vs Q E hr h => ?_)
  · obtain ⟨th, wt, k, T, word, nm, rest, rfl, _⟩ := h
    rfl
  · obtain ⟨th, wt, k, T, word, nm, rest, rfl, hT, hW, hq⟩ := h
    have hu := hu_of hr
    obtain ⟨few, hq⟩ := hq
    refine ⟨_, pss_one (ps_dput hu (pe_fld (pv 0) rfl) (pe_ix ix_tup (pv 2) pe_int (fun _ _ => rfl)) pe_non rfl), ?_⟩
    exact ⟨_, rfl, th, C, T.dx, _, _, rfl, hT.ob, X.cl, X.holders, tF_get1, _, rfl, wt, _, _, _, rfl, rfl, hW, atI_nat (j := 1) rfl, T.hd, _, rfl, DPut.k (k := Sum.inr nm) hT.h few, hq⟩
abbrev s_do_reach : Stmt := top 44
theorem sc_do_reach : FnScope ["things", "k", "wish"] ["things", "k", "wish"] (defScope s_do_reach) := ⟨rfl, rfl, rfl, by decide +kernel, rfl, by decide +kernel, by decide +kernel⟩
theorem ok_do_reach {f : Addr} {fd : FuncData} (F : Fun K "do_reach" "do_reach" s_do_reach f fd) (X : TTxt K C) : FnOk P w K mg base CX0 1 f fd ["things", "k", "wish"] (spStep K C dReach) := by
  refine F.ok sc_do_reach (fun vs H Q E h => ?_) (fun cdv A outer s H vs Q E hr h => ?_)
  · obtain ⟨th, wt, k, T, word, nm, rest, rfl, _⟩ := h
    rfl
  · obtain ⟨th, wt, k, T, word, nm, rest, rfl, hT, hW, hq⟩ := h
    have hu := hu_of hr
    obtain ⟨v, e, few, q1, q2⟩ := hq
    refine ⟨_, pss_cons (ps_if (pt_cmpR op_notN (pe_dget hu (pe_fld (pv 0) rfl) (pe_ix ix_tup (pv 2) pe_int (fun _ _ => rfl)) (fun _ _ => rfl)) pe_non (nomark _)) (pss_one (ps_ret pe_bl)) pss_nil) (pss_cons (ps_dput hu (pe_fld (pv 0) rfl) (pe_ix ix_tup (pv 2) pe_int (fun _ _ => rfl)) (pv 1) rfl) (pss_one (ps_ret pe_bl))), ?_⟩
    refine ⟨_, rfl, th, C, T.dx, _, _, rfl, hT.ob, X.cl, X.holders, tF_get1, _, rfl, wt, _, _, _, rfl, rfl, hW, atI_nat (j := 1) rfl, T.hd, v, rfl, e ▸ DGet.k (k := Sum.inr nm) hT.h, rfl, _, rfl, ?_⟩
    by_cases c : v = .non
    · rw [decide_eq_true c]
      refine iteF ?_
      exact ⟨_, rfl, _, rfl, th, C, T.dx, _, _, rfl, hT.ob, X.cl, X.holders, tF_get1, _, rfl, wt, _, _, _, rfl, rfl, hW, atI_nat (j := 1) rfl, T.hd, _, rfl, DPut.k (k := Sum.inr nm) hT.h few, q2 c⟩
    · rw [decide_eq_false c]
      exact iteT (q1 c)
end
end TW
namespace L2
open PySem PySem.Spec PyProof.Rows
/-- the frame of a lambda that has captured the cells cl -/
abbrev cloEnv (q : Str) (scope : Scope) (L f c' : Addr) (cl : List (Str × Addr)) : Env := PySem.W.envX q scope L f (.ref c') cl
def cloCx (P : Program) (w : World) (K : PySem.W.Frag) (mg : Str → Option Value) (base : Heap) (A : Around) (outer : List Env) (s : Shared) (H : Hp) (E : XK) (q : Str) (scope : Scope) (f c' : Addr) (cl : List (Str × Addr)) (N : List Str) : Cx where
  prog := P
  w := w
  K := K
  mg := mg
  base := base
  A := A.deeper (cloEnv q scope s.heap.objs.size f c' cl)
  N := N
  s_0 := s
  H_0 := H
  env := cloEnv q scope s.heap.objs.size f c' cl
  outer := outer
  stack := cloEnv q scope s.heap.objs.size f c' cl :: outer
  ex := []
  fn := fun _ => false
  calm := true
  pn := []
  xe := fun e s' => wpAny (model P w) (A.deeper (cloEnv q scope s.heap.objs.size f c' cl)) (leaving (cloEnv q scope s.heap.objs.size f c' cl) e) (fun _ s'' => L2.CX P w outer H s E e s'') (fun e' s'' => L2.CX P w outer H s E e' s'') s'
/-- a lambda of one parameter y, as it stands in base with what it has captured -/
structure CloAt (base : Heap) (f c' : Addr) (q : Str) (params : Arguments) (body : Expr) (scope : Scope) (cl : List (Str × Addr)) (y : Str) (xs : List Str) (vs : List V) : Prop where
  fn : ∃ pm ctv, base.get? f = some (PySem.W.kla_obj "<lambda>" q params body scope cl pm c' ctv)
  code : ∃ (oc : Obj) (us : Array Value) (t : Tok), base.get? c' = some oc ∧ oc.data = .fields us ∧ us[1]? = some (.str q t)
  kind : scope.kind = .function
  co : scope.isCoroutine = false
  gen : scope.isGenerator = false
  own : ∀ z ∈ scope.names, z.2 ≠ .cell
  par : scope.names.lookup y = some .local
  inj : ∀ x z c, cl.lookup x = some c → cl.lookup z = some c → x = z
  has : ∀ x, scope.names.lookup x = some .free → ∃ c, cl.lookup x = some c
  cells : ∀ x c, cl.lookup x = some c → ∃ v, base.IsCell c v
  caps : ∀ (i : Nat) (x : Str) (v : V), xs[i]? = some x → vs[i]? = some v → ∃ c u, cl.lookup x = some c ∧ scope.names.lookup x = some .free ∧ RelV v u ∧ base.IsCell c (some u)
  len : xs.length = vs.length
  bind : ∀ (pm ctv u : Value), bindArgs (PySem.W.kla_fn "<lambda>" q params body scope cl pm (.ref c') ctv) ⟨[u], []⟩ = pure [(y, u)]
section
variable {P : Program} {w : World} {K : PySem.W.Frag} {mg : Str → Option Value} {base : Heap} {f c' : Addr} {q y : Str} {params : Arguments} {body : Expr} {scope : Scope} {cl : List (Str × Addr)} {xs : List Str} {vs : List V}
theorem clo_start {A : Around} {outer : List Env} {s : Shared} {H : Hp} {E : XK} {v : V} {u : Value} {h₁ : Heap} {tk : Nat} (Z : CloAt base f c' q params body scope cl y xs vs) (e0 : Env0 P w K mg base A outer s H) (hd : A.handled = none) (r : RelV v u)
    (hns : h₁.Ns s.heap.objs.size fun x => ([(y, u)] : List (Str × Value)).reverse.lookup x) (kp : ∀ b o, s.heap.get? b = some o → h₁.get? b = some o) :
    Inv (cloCx P w K mg base A outer s H E q scope f c' cl (y :: xs)) [] (some v :: vs.map some) H { s with heap := h₁, toks := tk } := by
  have noA : ∀ b : Addr, b ∉ (cloCx P w K mg base A outer s H E q scope f c' cl (y :: xs)).ex := fun b z => absurd (show b ∈ ([] : List Addr) from z) (by simp)
  have inS : ∀ {c : Addr} {z : Option Value}, base.IsCell c z → s.heap.IsCell c z ∧ H c = none := fun {c z} ⟨o, ho, hd⟩ => ⟨⟨o, (e0.bs c o ho).1, hd⟩, (e0.bs c o ho).2⟩
  refine ⟨⟨e0.mod, Z.kind, rfl, rfl, Nat.le_refl _, Z.inj, fun x hx => ?_, fun x c z _ => ?_, fun _ => hd, Around.frames_deeper e0.frames, .inr ⟨rfl, rfl⟩, fun b z => absurd z (noA b), e0.bs, e0.bsz, fun b _ _ => noA b,
      fun b z => absurd z (noA b), e0.funs, e0.frf⟩,
    rfl, e0.bare, Un.kept kp, ⟨_, hns, fun i x z e1 e2 e3 => ?_⟩, fun x c e => ?_, e0.hok.fresh (Nat.le_refl _), fun x c e => ?_, fun p hp => absurd (show p ∈ ([] : List (Addr × Obj)) ++ [] from hp) (by simp), e0.hok.kept kp, ?_⟩
  · have hx : scope.names.lookup x = some .cell ∨ scope.names.lookup x = some .free := hx
    rcases hx with hx | hx
    · exact absurd rfl (Z.own _ (PySem.mem_of_lookup hx))
    · exact Z.has x hx
  · have z : false = true := z
    cases z
  · cases i with
    | zero =>
      have ex : y = x := Option.some.inj e1
      have ev : v = z := Option.some.inj (Option.some.inj e2)
      subst ex
      subst ev
      refine ⟨u, r, .inl ⟨Z.par, ?_⟩⟩
      simp [List.lookup]
    | succ i =>
      have e1' : xs[i]? = some x := e1
      have e2' : (vs.map some)[i]? = some (some z) := e2
      rw [List.getElem?_map] at e2'
      obtain ⟨z', h1, h2⟩ := Option.map_eq_some_iff.mp e2'
      cases h2
      obtain ⟨c, u', l1, l2, r', hc⟩ := Z.caps i x z e1' h1
      exact ⟨u', r', .inr ⟨.inr l2, c, l1, (inS hc).1.keeps kp⟩⟩
  · obtain ⟨z, hz⟩ := Z.cells x c e
    exact ⟨z, (inS hz).1.keeps kp⟩
  · obtain ⟨z, hz⟩ := Z.cells x c e
    exact (inS hz).2
  · show (some v :: vs.map some).length = (y :: xs).length
    simp [Z.len]
/-- such a lambda, called: its body's reading, the captured values in the slots behind the parameter's -/
theorem fnR_clo {k : Nat} {tb : XK → TE} (Z : CloAt base f c' q params body scope cl y xs vs)
    (hbody : ∀ (A : Around) (outer : List Env) (s : Shared) (H : Hp) (E : XK), Room k (A.deeper (cloEnv q scope s.heap.objs.size f c' cl)) → PE (cloCx P w K mg base A outer s H E q scope f c' cl (y :: xs)) body (tb E)) :
    FnR P w K mg base (L2.CX P w) (k + 1) f (fun ws H Q E => ∃ v, ws = [v] ∧ tb E (some v :: vs.map some) H Q) := by
  intro A outer s H us ws Q E hr e0 r ⟨v, ew, ht⟩
  subst ew
  cases r with
  | @cons _ u _ ur r0 rn =>
    cases rn
    obtain ⟨pm, ctv, o⟩ := Z.fn
    obtain ⟨oc, as, t, hoc, hdc, hvc⟩ := Z.code
    refine PySem.W.kla_callFunE hr.depth (e0.bs _ _ o).1 rfl Z.co Z.gen rfl ⟨c', oc, as, t, rfl, (e0.bs _ _ hoc).1, hdc, hvc⟩ ?_
    rw [Z.bind]
    refine wpAny_pure (wpAny_newFunctionEnv Z.own (fun z hz => by rw [List.mem_singleton.mp hz]; exact Z.par) (fun h₁ hns hsb => ?_) Z.kind)
    have lim : s.heap.NoLimit := e0.mod.nolimit.keeps fun b o e => (e0.bs b o e).1
    refine ⟨lim.fresh _ hsb, ?_⟩
    have kp : ∀ b o, s.heap.get? b = some o → h₁.get? b = some o := fun b o e => hsb.extBut b o (Nat.ne_of_lt (Heap.lt_size e)) (Heap.get?_push_of_some _ e)
    have J := clo_start (tk := s.toks + ([(y, u)] : List (Str × Value)).length) (E := E) Z e0 hr.hd r0 hns kp
    refine PySem.W.kla_codeExpr (wpAny_mono ((hbody A outer s H E (hr.deeper _)).run [] _ _ H Q J ht) (fun z s' hq => ?_) fun e s' hq => hq)
    obtain ⟨v', H', J', rv, q⟩ := hq
    exact ⟨v', H', J'.os, J'.bare, J'.base, J'.hok, rv, q⟩
end
end L2
namespace L2
open PySem PySem.Spec PyProof.Rows
/-- H without what it tracks at the places of L -/
def hidL (H : Hp) (L : List Addr) : Hp := fun b => if b ∈ L then none else H b
/-- H' with what H tracked there -/
def reL (H H' : Hp) (L : List Addr) : Hp := fun b => if b ∈ L then H b else H' b
theorem hidL_in {H : Hp} {L : List Addr} {b : Addr} (h : b ∈ L) : hidL H L b = none := if_pos h
theorem hidL_out {H : Hp} {L : List Addr} {b : Addr} (h : b ∉ L) : hidL H L b = H b := if_neg h
theorem reL_in {H H' : Hp} {L : List Addr} {b : Addr} (h : b ∈ L) : reL H H' L b = H b := if_pos h
theorem reL_out {H H' : Hp} {L : List Addr} {b : Addr} (h : b ∉ L) : reL H H' L b = H' b := if_neg h
theorem hidL_none {H : Hp} {L : List Addr} {b : Addr} (h : H b = none) : hidL H L b = none := by
  by_cases m : b ∈ L
  · exact hidL_in m
  · rw [hidL_out m]
    exact h
/-- all that L holds is told of one object alone -/
def ExtL (H : Hp) (L : List Addr) : Prop := ∀ b ∈ L, ∃ φ, H b = some (.ext φ)
theorem ExtL.out {H : Hp} {L : List Addr} (x : ExtL H L) {b : Addr} {o : HO} (e : H b = some o) (n : ∀ φ, o ≠ .ext φ) : b ∉ L := fun m => by
  obtain ⟨φ, q⟩ := x b m
  rw [q] at e
  exact n φ (Option.some.inj e).symm
theorem ExtL.free {H : Hp} {L : List Addr} (x : ExtL H L) {b : Addr} (e : H b = none) : b ∉ L := fun m => by
  obtain ⟨φ, q⟩ := x b m
  rw [q] at e
  cases e
theorem funFrames_more {h B G : Heap} : ∀ {l : List Env}, h.FunFrames B l → (∀ b ∈ frs l, G.get? b = none) → h.FunFrames G l
  | [], _, _ => trivial
  | env :: r, ⟨h1, ⟨L, o, e1, e2, e3, e4⟩, h3⟩, n => by
    refine ⟨h1, ⟨L, o, e1, n L ?_, e3, e4⟩, funFrames_more h3 fun b hb => n b ?_⟩
    · unfold frs
      rw [List.filterMap_cons, e1]
      exact List.mem_cons_self ..
    · unfold frs at hb ⊢
      rw [List.filterMap_cons, e1]
      exact List.mem_cons_of_mem _ hb
section
variable {X : Cx} {pins : List (Addr × Obj)} {σ : St} {H : Hp} {s : Shared} {L S : List Addr}
theorem hok_hid (x : HOk X.prog X.w H s.heap) (hL : ExtL H L) : HOk X.prog X.w (hidL H L) s.heap := fun b o e => by
  have hb : b ∉ L := fun m => by
    rw [hidL_in m] at e
    cases e
  rw [hidL_out hb] at e
  refine (x b o e).stay (fun c u _ q => q) (fun c q => ?_) (fun c xs q => ?_)
  · rw [hidL_out (hL.out q (fun _ z => by cases z))]
    exact q
  · rw [hidL_out (hL.out q (fun _ z => by cases z))]
    exact q
/-- a base that holds S too; what L holds is not tracked meanwhile -/
theorem base_more (I : Inv X pins σ H s) (hL : ExtL H L) (hS : ∀ b ∈ S, hidL H L b = none) (hf : ∀ b ∈ S, b ∉ frs X.stack) :
    ∃ B : Heap, (∀ b o, X.base.get? b = some o → B.get? b = some o) ∧ (∀ b o, b ∈ S → s.heap.get? b = some o → B.get? b = some o) ∧ Env0 X.prog X.w X.K X.mg B X.A X.stack s (hidL H L) := by
  have key : ∃ G : Heap, (∀ b o, s.heap.get? b = some o → ((X.base.get? b).isSome || decide (b ∈ S)) = true → G.get? b = some o) ∧ (∀ b o, G.get? b = some o → s.heap.get? b = some o ∧ ((X.base.get? b).isSome || decide (b ∈ S)) = true) ∧ G.objs.size = s.heap.objs.size := by
    refine ⟨PySem.W.hideAll s.heap ((List.range s.heap.objs.size).filter fun b => !((X.base.get? b).isSome || decide (b ∈ S))), fun b o e h => ?_, fun b o e => ⟨PySem.W.of_hideAll _ e, ?_⟩, PySem.W.hideAll_size _ _⟩
    · refine PySem.W.hideAll_get _ e fun m => ?_
      have z := (List.mem_filter.mp m).2
      rw [h] at z
      cases z
    · cases q : ((X.base.get? b).isSome || decide (b ∈ S)) with
      | true => rfl
      | false =>
        have lt : b < s.heap.objs.size := Heap.lt_size (PySem.W.of_hideAll _ e)
        have m : b ∈ (List.range s.heap.objs.size).filter fun b => !((X.base.get? b).isSome || decide (b ∈ S)) := List.mem_filter.mpr ⟨List.mem_range.mpr lt, by simp [q]⟩
        rw [PySem.W.hideAll_none _ m] at e
        cases e
  obtain ⟨G, g1, g2, g3⟩ := key
  have old : ∀ b o, X.base.get? b = some o → G.get? b = some o := fun b o e => g1 b o (I.bk b o e) (by rw [e]; rfl)
  have M := I.mod
  obtain ⟨mb, hb1, hb2⟩ := M.blt
  refine ⟨G, old, fun b o m e => g1 b o e (by simp [m]), I.ok.frames, ⟨M.kin.keeps old, M.glob.keeps old, ⟨mb, hb1.keeps old, hb2⟩, M.nolimit.keeps old⟩, fun b o e => ?_, Nat.le_of_eq g3, funFrames_more I.stack fun b hb => ?_, fun b hb => hidL_none (I.stkFree b hb), hok_hid I.hok hL, I.bare⟩
  · obtain ⟨e1, e2⟩ := g2 b o e
    refine ⟨e1, ?_⟩
    by_cases m : b ∈ S
    · exact hS b m
    · have q : (X.base.get? b).isSome = true := by simpa [m] using e2
      obtain ⟨o', q⟩ := Option.isSome_iff_exists.mp q
      exact hidL_none (I.bs b o' q).2
  · cases q : G.get? b with
    | none => rfl
    | some o =>
      obtain ⟨_, e2⟩ := g2 b o q
      have nb : X.base.get? b = none := (I.stack.mem hb).1
      have m : b ∉ S := fun m => hf b m hb
      rw [nb] at e2
      simp [m] at e2
/-- behind the call what L holds is tracked again -/
theorem ce_back {Q : VK} {u : Value} {s' : Shared} (I : Inv X pins σ H s) (hL : ExtL H L) (h : CE X.stack X.prog X.w (hidL H L) s (fun v H' => Q v (reL H H' L)) u s') : CE X.stack X.prog X.w H s Q u s' := by
  obtain ⟨v, H', os, bare, un, hok, r, q⟩ := h
  have there : ∀ b ∈ L, ∃ o, s.heap.get? b = some o ∧ s'.heap.get? b = some o ∧ H' b = none := fun b m => by
    obtain ⟨φ, e⟩ := hL b m
    obtain ⟨_, ⟨o, ho⟩, _⟩ := (show ObjOk X.prog X.w H s.heap b (.ext φ) from I.hok b _ e)
    have nf : b ∉ frs X.stack := fun z => by
      rw [I.stkFree b z] at e
      cases e
    exact ⟨o, ho, un.keep b o ho (hidL_in m) nf (by simp), un.free b o ho (hidL_in m) (by simp)⟩
  have outL : ∀ {b : Addr} {o : HO}, H' b = some o → b ∉ L := fun {b o} e m => by
    obtain ⟨_, _, _, z⟩ := there b m
    rw [z] at e
    cases e
  refine ⟨v, reL H H' L, os, bare, ⟨fun b o e n f x => un.keep b o e (hidL_none n) f x, fun b o e n f x => un.slot b o e (hidL_none n) f x, fun b o e n x => ?_, fun b o e x => un.there b o e x, fun b xs e => ?_, fun b o u e => ?_, fun b ps e => ?_⟩, fun b o e => ?_, r, q⟩
  · rw [reL_out (hL.free n)]
    exact un.free b o e (hidL_none n) x
  · have m := hL.out e (fun _ z => by cases z)
    rw [reL_out m]
    exact un.tups b xs (by rw [hidL_out m]; exact e)
  · have m := hL.out e (fun _ z => by cases z)
    rw [reL_out m]
    exact un.frzs b o u (by rw [hidL_out m]; exact e)
  · have m := hL.out e (fun _ z => by cases z)
    rw [reL_out m]
    exact un.tbls b ps (by rw [hidL_out m]; exact e)
  · by_cases m : b ∈ L
    · rw [reL_in m] at e
      obtain ⟨φ, e'⟩ := hL b m
      rw [e'] at e
      cases e
      obtain ⟨p, _, st⟩ := (show ObjOk X.prog X.w H s.heap b (.ext φ) from I.hok b _ e')
      obtain ⟨o, h1, h2, _⟩ := there b m
      exact ⟨st _ _ p fun o' z => by rw [h1] at z; cases z; exact h2, ⟨o, h2⟩, st⟩
    · rw [reL_out m] at e
      refine (hok b o e).stay (fun c u _ z => z) (fun c z => ?_) (fun c xs z => ?_)
      · rw [reL_out (outL z)]
        exact z
      · rw [reL_out (outL z)]
        exact z
end
end L2
namespace L2
open PySem PySem.Spec PyProof.Rows
/-- what a larger base is known to hold: what L tracked, and the cells of the def at hand -/
structure Known (X : Cx) (σ : St) (H : Hp) (L : List Addr) (B : Heap) : Prop where
  old : ∀ b o, X.base.get? b = some o → B.get? b = some o
  ext : ∀ b ∈ L, ∀ φ, H b = some (.ext φ) → φ B
  cell : ∀ (i : Nat) (y : Str) (v : V) (c : Addr), X.N[i]? = some y → σ[i]? = some (some v) → X.env.scope.names.lookup y = some .cell → X.env.cells.lookup y = some c → ∃ u, RelV v u ∧ B.IsCell c (some u)
  any : ∀ (y : Str) (c : Addr), X.env.cells.lookup y = some c → ∃ z, B.IsCell c z
section
variable {X : Cx} {pins : List (Addr × Obj)} {σ : St} {H : Hp} {s : Shared} {L : List Addr}
theorem known_base (I : Inv X pins σ H s) (hL : ExtL H L) (hfn : ∀ y, X.fn y = true) : ∃ B : Heap, Known X σ H L B ∧ Env0 X.prog X.w X.K X.mg B X.A X.stack s (hidL H L) := by
  have cellIn : ∀ c ∈ X.env.cells.map (·.2), ∃ y, X.env.cells.lookup y = some c ∨ True := fun c _ => ⟨"", .inr trivial⟩
  have hS : ∀ b ∈ L ++ (X.env.cells.filterMap fun p => X.env.cells.lookup p.1), hidL H L b = none := fun b hb => by
    rcases List.mem_append.mp hb with m | m
    · exact hidL_in m
    · obtain ⟨p, _, e⟩ := List.mem_filterMap.mp m
      exact hidL_none (I.freeC p.1 b e)
  have hf : ∀ b ∈ L ++ (X.env.cells.filterMap fun p => X.env.cells.lookup p.1), b ∉ frs X.stack := fun b hb z => by
    rcases List.mem_append.mp hb with m | m
    · obtain ⟨φ, e⟩ := hL b m
      rw [I.stkFree b z] at e
      cases e
    · obtain ⟨p, _, e⟩ := List.mem_filterMap.mp m
      rcases List.mem_cons.mp (I.stkSub b z) with q | q
      · exact I.cne p.1 b e q
      · obtain ⟨_, o, ho, _⟩ := I.ok.funs.mem q
        exact absurd (Nat.lt_of_lt_of_le (Heap.lt_size ho) (I.ok.cab p.1 b (hfn p.1) e)) (Nat.lt_irrefl _)
  have inS : ∀ {y : Str} {c : Addr}, X.env.cells.lookup y = some c → c ∈ L ++ (X.env.cells.filterMap fun p => X.env.cells.lookup p.1) := fun {y c} e =>
    List.mem_append_right _ (List.mem_filterMap.mpr ⟨(y, c), PySem.mem_of_lookup e, e⟩)
  obtain ⟨B, b1, b2, b3⟩ := base_more I hL hS hf
  refine ⟨B, ⟨b1, fun b m φ e => ?_, fun i y v c e1 e2 e3 e4 => ?_, fun y c e => ?_⟩, b3⟩
  · obtain ⟨p, ⟨o, ho⟩, st⟩ := (show ObjOk X.prog X.w H s.heap b (.ext φ) from I.hok b _ e)
    exact st _ _ p fun o' z => b2 b o' (List.mem_append_left _ m) z
  · obtain ⟨m, _, hl⟩ := I.loc
    obtain ⟨u, r, q⟩ := hl i y v e1 e2 (.inr (.inl e3))
    rcases q with ⟨k, _⟩ | ⟨_, c2, e, o, ho, hd⟩
    · have k : X.env.scope.names.lookup y = some .local := k
      rw [e3] at k
      cases k
    · rw [e4] at e
      cases e
      exact ⟨u, r, o, b2 c o (inS e4) ho, hd⟩
  · obtain ⟨z, o, ho, hd⟩ := I.cell y c e
    exact ⟨z, o, b2 c o (inS e) ho, hd⟩
theorem cx_false {P : Program} {w : World} {outer : List Env} {e : Value} {s' : Shared} (h : L2.CX P w outer H s (fun _ _ _ => False) e s') : False := by
  obtain ⟨_, _, _, _, _, _, _, _, _, _, _, _, z⟩ := h
  exact z
/-- a def that keeps its promise over every base, called from one that holds what it needs besides; nothing is raised -/
theorem run_fnH {k : Nat} {f : Addr} {fd : FuncData} {ps : List Str} {ds : List Value} {dvs : List V} {sp : Heap → Sp} {Q : VK} {us : List Value} {vs : List V} (F : ∀ B, (∀ b o, X.base.get? b = some o → B.get? b = some o) → FnOk X.prog X.w X.K X.mg B (L2.CX X.prog X.w) k f fd ps (sp B)) (hr : Room k X.A)
    (hb : Binds X.K fd ps ds) (hd : Vals dvs ds) (hfn : ∀ y, X.fn y = true) (I : Inv X pins σ H s) (r : Vals vs us)
    (h : ∃ L, ExtL H L ∧ ∀ B, Known X σ H L B → sp B (vs ++ dvs) (hidL H L) (fun v H' => Q v (reL H H' L)) (fun _ _ _ => False)) : wpAny (model X.prog X.w) X.A (call (.ref f) us) (EP X pins σ Q) X.xe s := by
  obtain ⟨L, hL, h⟩ := h
  obtain ⟨B, kb, e0⟩ := known_base I hL hfn
  have q := h B kb
  have G := F B kb.old
  have r2 : Vals (vs ++ dvs) (us ++ ds) := r.append hd
  have hl : (us ++ ds).length = ps.length := by
    rw [← r2.length]
    exact G.len _ _ _ _ q
  refine wpAny_call (codeAny_mono (G.run X.A X.stack s (hidL H L) ⟨us, []⟩ (us ++ ds) (vs ++ dvs) _ _ hr e0 (hb s us I.kIn hl) r2 q) fun res s' back => ?_)
  cases res with
  | error e => exact (cx_false back).elim
  | ok fl =>
    cases fl with
    | ret u => exact I.after (ce_back I hL back)
    | next => exact False.elim back
    | brk => exact False.elim back
    | cont => exact False.elim back
/-- what such a call reads -/
def tCallH (X : Cx) (sp : Heap → Sp) (dvs : List V) (t : TA) : TE := fun σ H Q => t σ H fun vs H1 => ∃ L, ExtL H1 L ∧ ∀ B, Known X σ H1 L B → sp B (vs ++ dvs) (hidL H1 L) (fun v H' => Q v (reL H1 H' L)) (fun _ _ _ => False)
end
section
variable {X : Cx} {k : Nat} {f C : Addr} {fd : FuncData} {ps : List Str} {ds : List Value} {dvs : List V} {sp : Heap → Sp} {x m : Str} {p pos apos : Pos} {e o : Expr} {es : List Expr} {t ta : TA} {to : TE}
theorem pe_callH (F : ∀ B, (∀ b o, X.base.get? b = some o → B.get? b = some o) → FnOk X.prog X.w X.K X.mg B (L2.CX X.prog X.w) k f fd ps (sp B)) (hr : Room k X.A) (hg : Gl X x) (hm : X.mg x = some (.ref f)) (hk : PySem.W.keepIn X.K (.ref f) = true) (hb : Binds X.K fd ps ds) (hd : Vals dvs ds) (hfn : ∀ y, X.fn y = true) (ha : PA X (e :: es) t)
    (hdb : (x == ("__debug__" : Str)) = false := by decide) (he : starEach (e :: es) X.env = (false, eval e X.env) :: starEach es X.env := by rfl) (hpl : (backTo pos (starEach es X.env)).any (·.1) = false := by rfl) :
    PE X (.Call (.Name x p) (e :: es) [] pos) (tCallH X sp dvs t) := by
  refine ⟨fun pins s σ H Q I h => ?_⟩
  refine wpAny_Call_Name_kw (ld_glob I hg hm ?_ hdb)
  exact PySem.W.callWith_K (h₀ := X.base) I.ok.mod.kin hk (thn (ha.run pos pins s σ H _ I h) fun us s1 ⟨vs, H1, I1, r, q⟩ => ⟨I1.kIn, run_fnH F hr hb hd hfn I1 r q⟩) he hpl
/-- o.m(e, ..) likewise -/
def tMethH (X : Cx) (C : Addr) (m : Str) (sp : Heap → Sp) (dvs : List V) (to : TE) (t : TA) : TE := fun σ H Q => to σ H fun y H1 => ∃ a dx fs, y = .ref a ∧ H1 a = some (.ins C dx fs) ∧ fs.lookup m = none ∧
  t σ H1 fun vs H2 => ∃ L, ExtL H2 L ∧ ∀ B, Known X σ H2 L B → sp B (.ref a :: (vs ++ dvs)) (hidL H2 L) (fun v H' => Q v (reL H2 H' L)) (fun _ _ _ => False)
theorem pe_methH {pl : Sem Bool} (he : PE X o to) (c : Cls X.K C) (hm : Meth X.K C m f) (F : ∀ B, (∀ b o, X.base.get? b = some o → B.get? b = some o) → FnOk X.prog X.w X.K X.mg B (L2.CX X.prog X.w) k f fd ps (sp B)) (hr : Room k X.A) (hb : Binds X.K fd ps ds) (hd : Vals dvs ds) (hfn : ∀ y, X.fn y = true) (ha : PA X (e :: es) t)
    (hst : starEach (e :: es) X.env = (false, eval e X.env) :: starEach es X.env := by rfl) (hpl : (backTo pos (starEach es X.env)).any (·.1) = false := by rfl)
    (ht : eval (.Call (.Attribute o m apos) (e :: es) [] pos) X.env = (do
      let ov ← eval o X.env
      standAt apos.atName
      let (f, first) ← holding [ov] (getMethod ov m pl)
      callWith pos f first (backTo pos (starEach (e :: es) X.env)) (backToKw pos (keywordEach [] X.env))) := by rfl) :
    PE X (.Call (.Attribute o m apos) (e :: es) [] pos) (tMethH X C m sp dvs to t) := by
  refine ⟨fun pins s σ H Q I h => ?_⟩
  refine PySem.W.methodCall_KW (pl := pl) (thn (he.run pins s σ H _ I h) fun u s1 ⟨y, H1, I1, rx, a, dx, fs, ex, ea, l, q⟩ => ?_) ht
  subst ex
  obtain rfl : u = Value.ref a := rx
  refine getmeth_ok I1 ea c hm l ?_
  refine PySem.W.callWith_K (first := [.ref a]) (h₀ := X.base) I.ok.mod.kin hm.kp (thn (ha.run pos pins s1 σ H1 _ I1 q) fun us s2 ⟨vs, H2, I2, r, q2⟩ => ⟨I2.kIn, ?_⟩) hst hpl
  exact run_fnH (us := .ref a :: us) (vs := .ref a :: vs) F hr hb hd hfn I2 (.cons rfl r) q2
/-- x(e, ..), x a local name that holds what can be called over the base at hand -/
theorem pe_callW {i : Nat} {E : XK} (hr : Room k X.A) (hN : X.N[i]? = some x) (hv : Vis X.env.scope x) (hx : Passes (L2.CX X.prog X.w) X E) (ha : PA X (e :: es) t) (hd : (x == ("__debug__" : Str)) = false := by decide) (hcd : (x == ("__classdict__" : Str)) = false := by decide)
    (he : starEach (e :: es) X.env = (false, eval e X.env) :: starEach es X.env := by rfl) (hpl : (backTo pos (starEach es X.env)).any (·.1) = false := by rfl) :
    PE X (.Call (.Name x p) (e :: es) [] pos) (fun σ H Q => ∃ (g : Addr) (s1 : Sp), σ[i]? = some (some (.ref g)) ∧ FnR X.prog X.w X.K X.mg X.base (L2.CX X.prog X.w) k g s1 ∧ PySem.W.FnAt g X.base ∧ t σ H fun vs H1 => s1 vs H1 Q E) := by
  refine ⟨fun pins s σ H Q I h => ?_⟩
  obtain ⟨g, sq, hs, F, ⟨oc, od, fdd, sl, hat⟩, ht⟩ := h
  refine wpAny_Call_Name_kw (thn ((pe_var (pos := p) hN hv hd hcd).run pins s σ H (fun v H1 => v = .ref g ∧ H1 = H) I ⟨.ref g, hs, rfl, rfl⟩) fun u s1 ⟨v, H1, I1, r1, q1⟩ => ?_)
  obtain ⟨ev, eH⟩ := q1
  subst ev
  subst eH
  obtain rfl : u = Value.ref g := r1
  exact PySem.W.callWith_F ⟨_, _, _, _, I1.bk _ _ hat⟩ (thn (ha.run pos pins s1 σ H1 _ I1 ht) fun us s2 ⟨vs, H2, I2, r, q⟩ => ⟨⟨_, _, _, _, I2.bk _ _ hat⟩, wpAny_call (run_fnR F hr hx I2 r q)⟩) he hpl
end
/-- a def as what it does with the values that come -/
theorem fnR_of {P : Program} {w : World} {K : PySem.W.Frag} {mg : Str → Option Value} {base : Heap} {CX : CXT} {k : Nat} {f : Addr} {fd : FuncData} {ps : List Str} {sp : Sp} (F : FnOk P w K mg base CX k f fd ps sp) (hb : Binds K fd ps []) : FnR P w K mg base CX k f sp := by
  intro A outer s H us vs Q E hr e0 r h
  have KX : K.In s.heap := e0.mod.kin.keeps fun b o e => (e0.bs b o e).1
  have hl : us.length = ps.length := by
    rw [← r.length]
    exact F.len _ _ _ _ h
  have z := hb s us KX (by rw [List.append_nil]; exact hl)
  rw [List.append_nil] at z
  exact F.run A outer s H ⟨us, []⟩ us vs Q E hr e0 z r h
end L2
namespace L2
open PySem PySem.Spec PyProof.Rows
section
variable {X : Cx} {k i : Nat} {x : Str} {p pos : Pos} {e : Expr} {es : List Expr} {t : TA}
/-- x(e, ..), x a local name that holds what can be called; what it raises is wished for at the caller's slots -/
theorem pe_callWS {E : St → XK} (hr : Room k X.A) (hN : X.N[i]? = some x) (hv : Vis X.env.scope x) (hx : ∀ σ, PassesAt (L2.CX X.prog X.w) X σ (E σ)) (ha : PA X (e :: es) t) (hd : (x == ("__debug__" : Str)) = false := by decide) (hcd : (x == ("__classdict__" : Str)) = false := by decide)
    (he : starEach (e :: es) X.env = (false, eval e X.env) :: starEach es X.env := by rfl) (hpl : (backTo pos (starEach es X.env)).any (·.1) = false := by rfl) :
    PE X (.Call (.Name x p) (e :: es) [] pos) (fun σ H Q => ∃ (g : Addr) (s1 : Sp), σ[i]? = some (some (.ref g)) ∧ FnR X.prog X.w X.K X.mg X.base (L2.CX X.prog X.w) k g s1 ∧ PySem.W.FnAt g X.base ∧ t σ H fun vs H1 => s1 vs H1 Q (E σ)) := by
  refine ⟨fun pins s σ H Q I h => ?_⟩
  obtain ⟨g, sq, hs, F, ⟨oc, od, fdd, sl, hat⟩, ht⟩ := h
  refine wpAny_Call_Name_kw (thn ((pe_var (pos := p) hN hv hd hcd).run pins s σ H (fun v H1 => v = .ref g ∧ H1 = H) I ⟨.ref g, hs, rfl, rfl⟩) fun u s1 ⟨v, H1, I1, r1, q1⟩ => ?_)
  obtain ⟨ev, eH⟩ := q1
  subst ev
  subst eH
  obtain rfl : u = Value.ref g := r1
  refine PySem.W.callWith_F ⟨_, _, _, _, I1.bk _ _ hat⟩ (thn (ha.run pos pins s1 σ H1 _ I1 ht) fun us s2 ⟨vs, H2, I2, r, q⟩ => ⟨⟨_, _, _, _, I2.bk _ _ hat⟩, ?_⟩) he hpl
  refine wpAny_call (codeAny_mono (F X.A X.stack s2 H2 us vs Q (E σ) hr I2.env0 r q) fun res s' back => ?_)
  cases res with
  | error er => exact hx σ pins H2 s2 er s' I2 back
  | ok fl =>
    cases fl with
    | ret z => exact I2.after back
    | next => exact False.elim back
    | brk => exact False.elim back
    | cont => exact False.elim back
end
/-- a promise, wished for less -/
def spUp (s1 : Sp) : Sp := fun vs H Q E => ∃ (Q0 : VK) (E0 : XK), s1 vs H Q0 E0 ∧ (∀ v H', Q0 v H' → Q v H') ∧ (∀ cls d H', E0 cls d H' → E cls d H')
theorem cx_up {P : Program} {w : World} {outer : List Env} {H : Hp} {s : Shared} {E0 E : XK} {u : Value} {s' : Shared} (h : ∀ cls d H', E0 cls d H' → E cls d H') (c : L2.CX P w outer H s E0 u s') : L2.CX P w outer H s E u s' := by
  obtain ⟨a, B, H', cls, d, e1, e2, e3, e4, e5, e6, e7, e8⟩ := c
  exact ⟨a, B, H', cls, d, e1, e2, e3, e4, e5, e6, e7, h _ _ _ e8⟩
theorem cr_up {P : Program} {w : World} {outer : List Env} {H : Hp} {s : Shared} {Q0 Q : VK} {E0 E : XK} {r : Result} {s' : Shared} (hq : ∀ v H', Q0 v H' → Q v H') (h : ∀ cls d H', E0 cls d H' → E cls d H') (c : CR (L2.CX P w) outer P w H s Q0 E0 r s') : CR (L2.CX P w) outer P w H s Q E r s' := by
  cases r with
  | error e => exact cx_up h c
  | ok fl =>
    cases fl with
    | ret u =>
      obtain ⟨v, H', e1, e2, e3, e4, e5, e6⟩ := c
      exact ⟨v, H', e1, e2, e3, e4, e5, hq _ _ e6⟩
    | next => exact False.elim c
    | brk => exact False.elim c
    | cont => exact False.elim c
theorem fnR_up {P : Program} {w : World} {K : PySem.W.Frag} {mg : Str → Option Value} {base : Heap} {k : Nat} {f : Addr} {s1 : Sp} (F : FnR P w K mg base (L2.CX P w) k f s1) : FnR P w K mg base (L2.CX P w) k f (spUp s1) := by
  intro A outer s H us vs Q E hr e0 r h
  obtain ⟨Q0, E0, h1, h2, h3⟩ := h
  exact codeAny_mono (F A outer s H us vs Q0 E0 hr e0 r h1) fun res s' c => cr_up h2 h3 c
/-- what a call of the callable that slot i holds reads -/
def tCallW (P : Program) (w : World) (K : PySem.W.Frag) (mg : Str → Option Value) (base : Heap) (k i : Nat) (E : St → XK) (t : TA) : TE := fun σ H Q =>
  ∃ (g : Addr) (s1 : Sp), σ[i]? = some (some (.ref g)) ∧ FnR P w K mg base (L2.CX P w) k g s1 ∧ PySem.W.FnAt g base ∧ t σ H fun vs H1 => s1 vs H1 Q (E σ)
theorem pe_callWT {X : Cx} {k i j : Nat} {x y : Str} {p pos p2 : Pos} {W : WX} {pn : List (Addr × Obj)} {xe : Value → Shared → Prop} (hr : Room k X.A) (hN : X.N[i]? = some x) (hv : Vis X.env.scope x) (hN2 : X.N[j]? = some y) (hv2 : Vis X.env.scope y) (tk : Takes (X.tr pn xe) W)
    (hd : (x == ("__debug__" : Str)) = false := by decide) (hcd : (x == ("__classdict__" : Str)) = false := by decide) (hd2 : (y == ("__debug__" : Str)) = false := by decide) (hcd2 : (y == ("__classdict__" : Str)) = false := by decide) :
    PE (X.tr pn xe) (.Call (.Name x p) [.Name y p2] [] pos) (tCallW X.prog X.w X.K X.mg X.base k i (WE W) (tCons (tVar j) tNil)) :=
  pe_callWS (X := X.tr pn xe) hr hN hv (fun σ => passAt tk σ) (pa_cons (pe_var (X := X.tr pn xe) hN2 hv2 hd2 hcd2) pa_nil) hd hcd
end L2
namespace TW
open PySem PySem.Spec PyProof.Rows L2
theorem pF_n0_1 : ¬ (("answers" : Str) = "pending") := by decide +kernel
theorem pF_n0_2 : ¬ (("answers" : Str) = "end") := by decide +kernel
theorem pF_n0_3 : ¬ (("answers" : Str) = "words") := by decide +kernel
theorem pF_n1_0 : ¬ (("pending" : Str) = "answers") := by decide +kernel
theorem pF_n1_2 : ¬ (("pending" : Str) = "end") := by decide +kernel
theorem pF_n1_3 : ¬ (("pending" : Str) = "words") := by decide +kernel
theorem pF_n2_0 : ¬ (("end" : Str) = "answers") := by decide +kernel
theorem pF_n2_1 : ¬ (("end" : Str) = "pending") := by decide +kernel
theorem pF_n2_3 : ¬ (("end" : Str) = "words") := by decide +kernel
theorem pF_n3_0 : ¬ (("words" : Str) = "answers") := by decide +kernel
theorem pF_n3_1 : ¬ (("words" : Str) = "pending") := by decide +kernel
theorem pF_n3_2 : ¬ (("words" : Str) = "end") := by decide +kernel
/-- the attributes of a pF, in the order in which __init__ stores them -/
def pF (v0 v1 v2 v3 : V) : List (Str × V) := [("answers", v0), ("pending", v1), ("end", v2), ("words", v3)]
theorem pF_get0 {v0 v1 v2 v3 : V} : (pF v0 v1 v2 v3).lookup ("answers" : Str) = some v0 := by
  unfold pF
  rw [lookup_put, if_pos rfl]
theorem pF_put0 {v0 v1 v2 v3 z : V} : putF "answers" z (pF v0 v1 v2 v3) = pF z v1 v2 v3 := by
  unfold pF
  simp only [putF, if_true]
theorem pF_get1 {v0 v1 v2 v3 : V} : (pF v0 v1 v2 v3).lookup ("pending" : Str) = some v1 := by
  unfold pF
  rw [lookup_put, if_neg pF_n1_0, lookup_put, if_pos rfl]
theorem pF_put1 {v0 v1 v2 v3 z : V} : putF "pending" z (pF v0 v1 v2 v3) = pF v0 z v2 v3 := by
  unfold pF
  simp only [putF, if_neg pF_n0_1, if_true]
theorem pF_get2 {v0 v1 v2 v3 : V} : (pF v0 v1 v2 v3).lookup ("end" : Str) = some v2 := by
  unfold pF
  rw [lookup_put, if_neg pF_n2_0, lookup_put, if_neg pF_n2_1, lookup_put, if_pos rfl]
theorem pF_put2 {v0 v1 v2 v3 z : V} : putF "end" z (pF v0 v1 v2 v3) = pF v0 v1 z v3 := by
  unfold pF
  simp only [putF, if_neg pF_n0_2, if_neg pF_n1_2, if_true]
theorem pF_get3 {v0 v1 v2 v3 : V} : (pF v0 v1 v2 v3).lookup ("words" : Str) = some v3 := by
  unfold pF
  rw [lookup_put, if_neg pF_n3_0, lookup_put, if_neg pF_n3_1, lookup_put, if_neg pF_n3_2, lookup_put, if_pos rfl]
theorem pF_put3 {v0 v1 v2 v3 z : V} : putF "words" z (pF v0 v1 v2 v3) = pF v0 v1 v2 z := by
  unfold pF
  simp only [putF, if_neg pF_n0_3, if_neg pF_n1_3, if_neg pF_n2_3, if_true]
theorem pF_make0 {v0 : V} : putF "answers" v0 ([] : List (Str × V)) = ([("answers", v0)] : List (Str × V)) := rfl
theorem pF_make1 {v0 v1 : V} : putF "pending" v1 ([("answers", v0)] : List (Str × V)) = ([("answers", v0), ("pending", v1)] : List (Str × V)) := by
  simp only [putF, if_neg pF_n0_1, if_true]
theorem pF_make2 {v0 v1 v2 : V} : putF "end" v2 ([("answers", v0), ("pending", v1)] : List (Str × V)) = ([("answers", v0), ("pending", v1), ("end", v2)] : List (Str × V)) := by
  simp only [putF, if_neg pF_n0_2, if_neg pF_n1_2, if_true]
theorem pF_make3 {v0 v1 v2 v3 : V} : putF "words" v3 ([("answers", v0), ("pending", v1), ("end", v2)] : List (Str × V)) = ([("answers", v0), ("pending", v1), ("end", v2), ("words", v3)] : List (Str × V)) := by
  simp only [putF, if_neg pF_n0_3, if_neg pF_n1_3, if_neg pF_n2_3, if_true]
theorem pF_no {v0 v1 v2 v3 : V} {m : Str} (h0 : ¬ m = ("answers" : Str)) (h1 : ¬ m = ("pending" : Str)) (h2 : ¬ m = ("end" : Str)) (h3 : ¬ m = ("words" : Str)) : (pF v0 v1 v2 v3).lookup m = none := by
  unfold pF
  rw [lookup_put, if_neg h0, lookup_put, if_neg h1, lookup_put, if_neg h2, lookup_put, if_neg h3]
  rfl

structure PTxt (K : PySem.W.Frag) (C : Addr) : Prop where
  cl : Cls K C
  answers : NoAttr K C "answers"
  pending : NoAttr K C "pending"
  end_ : NoAttr K C "end"
  words : NoAttr K C "words"
abbrev sPI : Stmt := inClass (top 28) 0
abbrev sRet : Stmt := top 29
abbrev sCome : Stmt := top 30
def spPI (C : Addr) : Sp := fun vs H Q _ => ∃ (pl dx : Addr) (a b c d : V), vs = [.ref pl, a, b, c, d] ∧ H pl = some (.ins C dx []) ∧ Q .non (upd H pl (.ins C dx (pF a b c d)))
/-- a work run with a hand: what it returns, or nothing where it is held -/
def spRet (P : Program) (w : World) (K : PySem.W.Frag) (mg : Str → Option Value) (base : Heap) (C CH : Addr) (kw : Nat) : Sp := fun vs H Q E => ∃ (g hd : Addr) (s1 : Sp), vs = [.ref g, .ref hd] ∧ FnR P w K mg base (L2.CX P w) kw g s1 ∧ PySem.W.FnAt g base ∧
  s1 [.ref hd] H Q (fun cls d H' => ∃ b, PySem.W.exmOne K cls (.ref CH) = some b ∧ (b = true → ∃ dx h, HandAt K C H' hd dx h ∧ h.halted = true ∧ Q .non H') ∧ (b = false → E cls d H'))
section
variable {P : Program} {w : World} {K : PySem.W.Frag} {mg : Str → Option Value} {base : Heap} {C CP CH : Addr}
theorem scPI : FnScope ["self", "answers", "pending", "end", "words"] ["self", "answers", "pending", "end", "words"] (defScope sPI) := ⟨rfl, rfl, rfl, by decide +kernel, rfl, by decide +kernel, by decide +kernel⟩
theorem ok_PI {f : Addr} {fd : FuncData} (F : Fun K "__init__" "Place.__init__" sPI f fd) (T : PTxt K CP) : FnOk P w K mg base CX0 1 f fd ["self", "answers", "pending", "end", "words"] (spPI CP) := by
  refine F.ok scPI (fun vs H Q E h => ?_) (fun cdv A outer s H vs Q E hr h => ?_)
  · obtain ⟨pl, dx, a, b, c, d, rfl, _⟩ := h
    rfl
  · obtain ⟨pl, dx, a, b, c, d, rfl, ho, k⟩ := h
    refine ⟨_, pss_cons (ps_fld (pv 0) (pv 1) rfl) (pss_cons (ps_fld (pv 0) (pv 2) rfl) (pss_cons (ps_fld (pv 0) (pv 3) rfl) (pss_one (ps_fld (pv 0) (pv 4) rfl)))), ?_⟩
    refine ⟨_, rfl, _, rfl, pl, CP, dx, _, rfl, ho, T.cl, T.answers, (by show 0 < 1000; decide), ?_⟩
    rw [pF_make0]
    refine ⟨_, rfl, _, rfl, pl, CP, dx, _, rfl, upd_same, T.cl, T.pending, (by show 1 < 1000; decide), ?_⟩
    rw [pF_make1, upd_upd]
    refine ⟨_, rfl, _, rfl, pl, CP, dx, _, rfl, upd_same, T.cl, T.end_, (by show 2 < 1000; decide), ?_⟩
    rw [pF_make2, upd_upd]
    refine ⟨_, rfl, _, rfl, pl, CP, dx, _, rfl, upd_same, T.cl, T.words, (by show 3 < 1000; decide), ?_⟩
    rw [pF_make3, upd_upd]
    exact k
theorem scRet : FnScope ["work", "hand"] ["work", "hand"] (defScope sRet) := ⟨rfl, rfl, rfl, by decide +kernel, rfl, by decide +kernel, by decide +kernel⟩
theorem ok_ret {f : Addr} {fd : FuncData} {kw : Nat} (F : Fun K "returned" "returned" sRet f fd) (T : HTxt K C) (mH : mg "Held" = some (.ref CH)) : FnOk P w K mg base (L2.CX P w) (kw + 1) f fd ["work", "hand"] (spRet P w K mg base C CH kw) := by
  refine F.okX scRet (fun vs H Q E h => ?_) (fun cdv A outer s H vs Q E hr h => ?_)
  · obtain ⟨g, hd, s1, rfl, _⟩ := h
    rfl
  · obtain ⟨g, hd, s1, rfl, hF, hA, hq⟩ := h
    refine ⟨_, pss_cons (ps_try_only (c := .ref CH) (tb := fun W => tRet (tCallW P w K mg base kw 0 (WE W) (tCons (tVar 1) tNil))) (ts := fun _ _ _ => tIfS (tNot (tB (tFld K (tVar 1) "halted"))) tNever tNext) (Wout := fun cls d _ H => E cls d H) rfl rfl ⟨rfl, by decide, .inl mH⟩ (takes_of (E := E) rfl rfl rfl rfl)
        (fun W pn xe tk _ => pss_one (ps_ret (pe_callWT hr rfl (.inl rfl) rfl (.inl rfl) tk)))
        (fun a oe cls d pn hz hf => by exact pss_one (ps_if (pt_not (pt_val (pe_fld (pv 1) rfl))) (pss_one ps_never) pss_nil)))
      (pss_one (ps_ret pe_non)), ?_⟩
    refine ⟨g, spUp s1, rfl, fnR_up hF, hA, _, rfl, _, _, hq, fun v H' k => k, fun cls d H' k => ?_⟩
    obtain ⟨b, e, k1, k2⟩ := k
    refine ⟨b, e, fun hb a ha => ?_, k2⟩
    obtain ⟨dx, h, hA, e2, k3⟩ := k1 hb
    refine ⟨_, rfl, hd, C, dx, _, _, rfl, hA.ob, T.cl, T.halted, hF_get8, _, rfl, ?_⟩
    rw [e2]
    exact iteF k3
end
end TW
namespace TW
open PySem PySem.Spec PyProof.Rows L2
theorem upd_free {H : Hp} {a b : Addr} {o : HO} (h : upd H a o b = none) : b ≠ a ∧ H b = none := by
  by_cases e : b = a
  · rw [e, upd_same] at h
    cases h
  · rw [upd_ne e] at h
    exact ⟨e, h⟩
/-- a new place behind a hand's end: what it holds -/
def AfterP (CP an : Addr) (Q : VK) (h : HS) (H : Hp) : Prop := ∀ (pl dp tw : Addr) (G : Hp), H pl = none → H dp = none → pl ≠ dp → pl ≠ tw → dp ≠ tw → Same H G → G pl = some (.ins CP dp (pF (.ref an) h.pend h.fin (.ref tw))) → G tw = some (.tup h.words) → Q (.ref pl) G
/-- a work is run anew: its hand is new, its end or its wish is told in a new place -/
def spCome (P : Program) (w : World) (K : PySem.W.Frag) (mg : Str → Option Value) (base : Heap) (C CS CP CH CV : Addr) (kw n : Nat) : Sp := fun vs H Q E => ∃ (sh an : Addr) (me : Nat) (ans : List V) (S : SS) (g : Addr) (s1 : Sp), vs = [.ref sh, .int (me : Int), .ref an] ∧ ShopAt K CS H sh S ∧ SqT K H an ans ∧
  S.works[me]? = some (.ref g) ∧ FnR P w K mg base (L2.CX P w) kw g s1 ∧ PySem.W.FnAt g base ∧
  ∀ (hd dx md wl : Addr) (G : Hp), H hd = none → H dx = none → H md = none → H wl = none → Same H G → HandAt K C G hd dx (hs0 (me : Int) sh an ans md wl) →
    spUp s1 [.ref hd] G
      (fun v H2 => ∃ h, HandAt K C H2 hd dx h ∧ (h.halted = true → AfterP CP an Q h H2) ∧ (h.halted = false → ∃ b, Vn K H2 n v b ∧ ∀ H3, Same H2 H3 → (b = false → EX E CV "value" v H3) ∧
        (b = true → ∀ t, H3 t = none → AfterP CP an Q { h with fin := .ref t } (upd (upd H3 t (.tup [.str "told", v])) hd (.ins C dx { h with fin := .ref t }.fs)))))
      (fun cls d H2 => ∃ b, PySem.W.exmOne K cls (.ref CH) = some b ∧ (b = true → ∃ h, HandAt K C H2 hd dx h ∧ h.halted = true ∧ AfterP CP an Q h H2) ∧ (b = false → E cls d H2))
abbrev sComeD : Stmt := top 30
section
variable {P : Program} {w : World} {K : PySem.W.Frag} {mg : Str → Option Value} {base : Heap} {C CS CP CH CV : Addr} {n kw : Nat}
theorem scCome : FnScope ["shop", "k", "answers", "hand", "value"] ["shop", "k", "answers"] (defScope sComeD) := ⟨rfl, rfl, rfl, by decide +kernel, rfl, by decide +kernel, by decide +kernel⟩
theorem ok_come {f fI fR fV fP : Addr} {fd fdI fdR fdV fdP : FuncData} (F : Fun K "come" "come" sComeD f fd) (B : Blt mg) (T : HTxt K C) (TS : STxt K CS)
    (MH : Mk K C fI) (GI : FnOk P w K mg base CX0 1 fI fdI ["self", "shop", "me", "answers"] (spHI K C)) (mHand : mg "Hand" = some (.ref C)) (bI : Binds K fdI ["self", "shop", "me", "answers"] [])
    (R : FnOk P w K mg base (L2.CX P w) (kw + 1) fR fdR ["work", "hand"] (spRet P w K mg base C CH kw)) (mR : mg "returned" = some (.ref fR)) (kR : PySem.W.keepIn K (.ref fR) = true) (bR : Binds K fdR ["work", "hand"] [])
    (V : FnOk P w K mg base (L2.CX P w) (n + 3) fV fdV ["given"] (spCkV K CV n)) (mV : mg "check_value" = some (.ref fV)) (kV : PySem.W.keepIn K (.ref fV) = true) (bV : Binds K fdV ["given"] [])
    (MP : Mk K CP fP) (GP : FnOk P w K mg base CX0 1 fP fdP ["self", "answers", "pending", "end", "words"] (spPI CP)) (mP : mg "Place" = some (.ref CP)) (bP : Binds K fdP ["self", "answers", "pending", "end", "words"] []) :
    FnOk P w K mg base (L2.CX P w) (kw + n + 4) f fd ["shop", "k", "answers"] (spCome P w K mg base C CS CP CH CV kw n) := by
  refine F.okX scCome (fun vs H Q E h => ?_) (fun cdv A outer s H vs Q E hr h => ?_)
  · obtain ⟨sh, an, me, ans, S, g, s1, rfl, _⟩ := h
    rfl
  · obtain ⟨sh, an, me, ans, S, g, s1, rfl, hS, ha, hw, hF, hA, k⟩ := h
    have hr2 : Room 2 _ := hr.mono (by omega)
    have hrR : Room (kw + 1) _ := hr.mono (by omega)
    have hrV : Room (n + 3) _ := hr.mono (by omega)
    refine ⟨_, pss_cons (ps_set (i := 3) scCome.nd rfl (.inl rfl) (pe_make MH GI hr2 rfl mHand bI .nil pass0 (pa_cons (pv 0) (pa_cons (pv 1) (pa_cons (pv 2) pa_nil)))))
      (pss_cons (ps_set (i := 4) scCome.nd rfl (.inl rfl) (pe_callS R hrR rfl mR kR bR (fun σ => passAt (takes_of (E := E) rfl rfl rfl rfl) σ) (pa_cons (pe_ix ix_tup (pe_fld (pv 0) rfl) (pv 1) (fun _ _ => rfl)) (pa_cons (pv 3) pa_nil))))
      (pss_cons (ps_if (pt_not (pt_val (pe_fld (pv 3) rfl)))
          (pss_cons (ps_expr (pe_callS V hrV rfl mV kV bV (fun σ => passAt (takes_of (E := E) rfl rfl rfl rfl) σ) (pa_cons (pv 4) pa_nil)))
          (pss_one (ps_fld (pv 3) (pe_tup (pa_cons pe_str (pa_cons (pv 4) pa_nil))) rfl))) pss_nil)
      (pss_one (ps_ret (pe_make MP GP hr2 rfl mP bP .nil pass0 (pa_cons (pv 2) (pa_cons (pe_fld (pv 3) rfl) (pa_cons (pe_fld (pv 3) rfl) (pa_cons (pe_callTy call_tuple_of (by rfl) B.tuple (by decide +kernel) (pa_cons (pe_fld (pv 3) rfl) pa_nil)) pa_nil))))))))), ?_⟩
    refine ⟨_, rfl, _, rfl, _, rfl, fun hd dx n1 n2 ne => ?_⟩
    have sQ : Same H (upd (upd H dx (.own hd)) hd (.ins C dx [])) := (same_new n2).trans (same_new (by rw [upd_ne (Ne.symm ne)]; exact n1))
    refine ⟨hd, dx, sh, an, (me : Int), ans, rfl, upd_same, seqT_same sQ ha, fun md wl G m1 m2 old hG => ⟨rfl, ?_⟩⟩
    have sG : Same H G := fun b o e => old b o (sQ b o e) (ne_of_none e n1)
    have hS1 := hS.same sG
    obtain ⟨Q0, E0, z1, z2, z3⟩ := k hd dx md wl G n1 n2 (upd_free (upd_free m1).2).2 (upd_free (upd_free m2).2).2 sG hG
    refine ⟨_, rfl, sh, CS, S.dx, _, _, rfl, hS1.ob, TS.cl, TS.works, sF_get0, _, rfl, S.wt, _, _, _, rfl, rfl, hS1.w, atI_nat hw, _, rfl, ?_⟩
    refine ⟨g, hd, spUp s1, rfl, fnR_up hF, hA, Q0, E0, z1, fun v H2 z => ?_, fun cls d H2 z => ?_⟩
    · obtain ⟨h, hA2, k1, k2⟩ := z2 v H2 z
      refine ⟨_, rfl, hd, C, dx, _, _, rfl, hA2.ob, T.cl, T.halted, hF_get8, _, rfl, ?_⟩
      cases e : h.halted with
      | true =>
        refine iteF ?_
        refine ⟨_, rfl, _, rfl, hd, C, dx, _, _, rfl, hA2.ob, T.cl, T.pending, hF_get6, _, rfl, hd, C, dx, _, _, rfl, hA2.ob, T.cl, T.end_, hF_get7, _, rfl, hd, C, dx, _, _, rfl, hA2.ob, T.cl, T.words, hF_get5, h.wl, h.words, rfl, .inl ⟨SqL.of hA2.w, fun tw htw pl dp p1 p2 ne => ?_⟩⟩
        refine ⟨pl, dp, _, _, _, _, rfl, upd_same, rfl, ?_⟩
        rw [upd_upd]
        have f1 := upd_free p1
        have f2 := upd_free p2
        exact k1 e pl dp tw _ f1.2 f2.2 (Ne.symm ne) f1.1 f2.1 (((same_new htw).trans (same_new p2)).trans (same_new (by rw [upd_ne (Ne.symm ne)]; exact p1))) upd_same (by rw [upd_ne (Ne.symm f1.1), upd_ne (Ne.symm f2.1)]; exact upd_same)
      | false =>
        refine iteT ?_
        obtain ⟨b, hV, k3⟩ := k2 e
        refine ⟨_, rfl, v, b, rfl, hV, fun H3 s3 => ⟨fun hb => ?_, fun hb => (k3 H3 s3).1 hb⟩⟩
        refine ⟨_, rfl, two_sz, fun t ht => ?_⟩
        have hA3 : HandAt K C (upd H3 t (.tup [.str "told", v])) hd dx h := hA2.same (s3.trans (same_new ht))
        refine ⟨_, rfl, hd, C, dx, _, rfl, hA3.ob, T.cl, T.end_, few9, ?_⟩
        have hA4 := hA3.set (h' := { h with fin := .ref t }) ⟨rfl, rfl, rfl, rfl, rfl, rfl⟩
        have k4 := (k3 H3 s3).2 hb t ht
        unfold HS.fs at hA4 k4 ⊢
        rw [hF_put7]
        refine ⟨_, rfl, _, rfl, hd, C, dx, _, _, rfl, hA4.ob, T.cl, T.pending, hF_get6, _, rfl, hd, C, dx, _, _, rfl, hA4.ob, T.cl, T.end_, hF_get7, _, rfl, hd, C, dx, _, _, rfl, hA4.ob, T.cl, T.words, hF_get5, h.wl, h.words, rfl, .inl ⟨SqL.of hA4.w, fun tw htw pl dp p1 p2 ne => ?_⟩⟩
        refine ⟨pl, dp, _, _, _, _, rfl, upd_same, rfl, ?_⟩
        rw [upd_upd]
        have f1 := upd_free p1
        have f2 := upd_free p2
        exact k4 pl dp tw _ f1.2 f2.2 (Ne.symm ne) f1.1 f2.1 (((same_new htw).trans (same_new p2)).trans (same_new (by rw [upd_ne (Ne.symm ne)]; exact p1))) upd_same (by rw [upd_ne (Ne.symm f1.1), upd_ne (Ne.symm f2.1)]; exact upd_same)
    · obtain ⟨b, e, k1, k2⟩ := z3 cls d H2 z
      refine ⟨b, e, fun hb => ?_, k2⟩
      obtain ⟨h, hA2, e2, k3⟩ := k1 hb
      refine ⟨dx, h, hA2, e2, ?_⟩
      refine ⟨_, rfl, hd, C, dx, _, _, rfl, hA2.ob, T.cl, T.halted, hF_get8, _, rfl, ?_⟩
      rw [e2]
      refine iteF ?_
      refine ⟨_, rfl, _, rfl, hd, C, dx, _, _, rfl, hA2.ob, T.cl, T.pending, hF_get6, _, rfl, hd, C, dx, _, _, rfl, hA2.ob, T.cl, T.end_, hF_get7, _, rfl, hd, C, dx, _, _, rfl, hA2.ob, T.cl, T.words, hF_get5, h.wl, h.words, rfl, .inl ⟨SqL.of hA2.w, fun tw htw pl dp p1 p2 ne => ?_⟩⟩
      refine ⟨pl, dp, _, _, _, _, rfl, upd_same, rfl, ?_⟩
      rw [upd_upd]
      have f1 := upd_free p1
      have f2 := upd_free p2
      exact k3 pl dp tw _ f1.2 f2.2 (Ne.symm ne) f1.1 f2.1 (((same_new htw).trans (same_new p2)).trans (same_new (by rw [upd_ne (Ne.symm ne)]; exact p1))) upd_same (by rw [upd_ne (Ne.symm f1.1), upd_ne (Ne.symm f2.1)]; exact upd_same)
end
end TW
namespace L2
open PySem PySem.Spec PyProof.Rows
section
variable {X : Cx}
/-- t + u of any tuples -/
def rCatT2 (K : PySem.W.Frag) : R2 := fun x y H Q => ∃ a b xs ys, x = .ref a ∧ y = .ref b ∧ SqT K H a xs ∧ SqT K H b ys ∧ xs.length + ys.length ≤ sizeLine ∧
  (xs = [] → Q (.ref b) H) ∧ (xs ≠ [] → ys = [] → Q (.ref a) H) ∧ (xs ≠ [] → ys ≠ [] → ∀ p, H p = none → Q (.ref p) (upd H p (.tup (xs ++ ys))))
theorem op_catT2 : OpR X (binaryOp .Add) (rCatT2 X.K) := by
  intro pins s σ H x y v u Q I rx ry h
  obtain ⟨a, b, xs, ys, ex, ey, ha, hb, hz, q0, q1, q2⟩ := h
  by_cases hx : xs = []
  · subst ex
    subst ey
    cases rx
    cases ry
    obtain ⟨its, r1, p1, _⟩ := I.tuple ha
    obtain ⟨its2, r2, p2, _⟩ := I.tuple hb
    have e : its = [] := r1.nil_iff.mpr hx
    subst e
    obtain ⟨⟨cls, dd, data, sl⟩, ho, hc, n, hd⟩ := id p1
    obtain ⟨⟨cls2, dd2, data2, sl2⟩, ho2, hc2, n2, hd2⟩ := id p2
    simp only at hc hd hc2 hd2
    subst hc hd hc2 hd2
    exact concat_meets ⟨_, ho, rfl⟩ ⟨_, ho2, rfl⟩ noFill_tuple_add seq_tuple_add PySem.F.slot_tuple_add PySem.F.entry_tuple_add (PySem.F.args_tuple_add_2 _ _)
      (tuple_addW0 a b _ its2.toArray n n2 dd dd2 sl sl2 (by simp)) ⟨ho, ho2, ⟨.ref b, H, I, rfl, q0 hx⟩⟩
  · exact op_catT pins s σ H x y v u Q I rx ry ⟨a, b, xs, ys, ex, ey, ha, hb, hx, hz, q1 hx, q2 hx⟩
end
end L2
namespace TW
open PySem PySem.Spec PyProof.Rows L2
theorem small_sz {n : Nat} (h : n ≤ 100000) : n ≤ sizeLine := by
  have e : (100000 : Nat) ≤ sizeLine := by
    rw [sizeLine_eq]
    decide
  exact Nat.le_trans h e
abbrev dLay (K : PySem.W.Frag) : TS → Int → Str → List V → Hp → VK → Prop := fun T _ s rest H Q => ∃ x l a row, rest = x :: l ∧ valV T.rows (Sum.inr s) = some (.ref a) ∧ SqT K H a row ∧ row.length ≤ 1000 ∧ T.rows.length < sizeLine ∧
  ∀ p H', Same H H' → SqT K H' p (row ++ [x]) → Q .non (upd H' T.rd (.dK (putK T.rows (Sum.inr s) (.ref p))))
abbrev dFetch (K : PySem.W.Frag) : TS → Int → Str → List V → Hp → VK → Prop := fun T _ s rest H Q => ∃ x a row, valV T.rows (Sum.inr s) = some (.ref a) ∧ SqT K H a (x :: row) ∧ row.length ≤ 1000 ∧ T.rows.length < sizeLine ∧
  ∀ p H', Same H H' → SqT K H' p row → Q x (upd H' T.rd (.dK (putK T.rows (Sum.inr s) (.ref p))))
def spNothing : Sp := fun vs H Q _ => ∃ a b c, vs = [a, b, c] ∧ Q .non H
section
variable {P : Program} {w : World} {K : PySem.W.Frag} {mg : Str → Option Value} {base : Heap} {C : Addr}
abbrev s_do_nothing : Stmt := top 37
theorem sc_do_nothing : FnScope ["things", "k", "wish"] ["things", "k", "wish"] (defScope s_do_nothing) := ⟨rfl, rfl, rfl, by decide +kernel, rfl, by decide +kernel, by decide +kernel⟩
theorem ok_do_nothing {f : Addr} {fd : FuncData} (F : Fun K "do_nothing" "do_nothing" s_do_nothing f fd) : FnOk P w K mg base CX0 1 f fd ["things", "k", "wish"] spNothing := by
  refine F.ok sc_do_nothing (fun vs H Q E h => ?_) (fun cdv A outer s H vs Q E hr h => ?_)
  · obtain ⟨a, b, c, rfl, _⟩ := h
    rfl
  · obtain ⟨a, b, c, rfl, hq⟩ := h
    exact ⟨_, pss_one (ps_ret pe_non), hq⟩
abbrev s_do_lay : Stmt := top 45
theorem sc_do_lay : FnScope ["things", "k", "wish"] ["things", "k", "wish"] (defScope s_do_lay) := ⟨rfl, rfl, rfl, by decide +kernel, rfl, by decide +kernel, by decide +kernel⟩
theorem ok_do_lay {f : Addr} {fd : FuncData} (F : Fun K "do_lay" "do_lay" s_do_lay f fd) (X : TTxt K C) : FnOk P w K mg base CX0 1 f fd ["things", "k", "wish"] (spStep K C (dLay K)) := by
  refine F.ok sc_do_lay (fun vs H Q E h => ?_) (fun cdv A outer s H vs Q E hr h => ?_)
  · obtain ⟨th, wt, k, T, word, nm, rest, rfl, _⟩ := h
    rfl
  · obtain ⟨th, wt, k, T, word, nm, rest, rfl, hT, hW, hq⟩ := h
    have hu := hu_of hr
    obtain ⟨x, l, a, row, rfl, e, hR, le, few, hq⟩ := hq
    refine ⟨_, pss_one (ps_dput hu (pe_fld (pv 0) rfl) (pe_ix ix_tup (pv 2) pe_int (fun _ _ => rfl)) (pe_op op_catT2 (pe_dget hu (pe_fld (pv 0) rfl) (pe_ix ix_tup (pv 2) pe_int (fun _ _ => rfl)) (fun _ _ => rfl)) (pe_tup (pa_cons (pe_ix ix_tup (pv 2) pe_int (fun _ _ => rfl)) pa_nil))) rfl), ?_⟩
    refine ⟨_, rfl, th, C, T.dx, _, _, rfl, hT.ob, X.cl, X.rows, tF_get2, _, rfl, wt, _, _, _, rfl, rfl, hW, atI_nat (j := 1) rfl, T.rd, _, rfl, e ▸ DGet.k (k := Sum.inr nm) hT.r, ?_⟩
    refine ⟨_, rfl, wt, _, _, _, rfl, rfl, hW, atI_nat (j := 2) rfl, small_sz (n := 1) (by decide), fun t ht => ?_⟩
    have s1 := same_new (o := HO.tup [x]) ht
    have go : ∀ p H', Same H H' → SqT K H' p (row ++ [x]) → H' th = some (.ins C T.dx (tF (.ref T.cd) (.ref T.hd) (.ref T.rd) (.ref T.sd))) ∧ SqT K H' wt (.str word :: .str nm :: x :: l) ∧ DPut H' T.rd (.str nm) (.ref p) (upd H' T.rd (.dK (putK T.rows (Sum.inr nm) (.ref p)))) := fun p H' sm q => ⟨sm _ _ hT.ob, seqT_same sm hW, DPut.k (k := Sum.inr nm) (sm _ _ hT.r) few⟩
    refine ⟨a, t, row, [x], rfl, rfl, seqT_same s1 hR, SqT.of upd_same, small_sz (by show row.length + 1 ≤ 100000; omega), fun z => ?_, fun _ y => (nomatch y), fun z y p hp => ?_⟩
    · subst z
      have q : SqT K (upd H t (.tup [x])) t ([] ++ [x]) := SqT.of upd_same
      obtain ⟨g1, g2, g3⟩ := go t _ s1 q
      exact ⟨_, rfl, th, C, T.dx, _, _, rfl, g1, X.cl, X.rows, tF_get2, _, rfl, wt, _, _, _, rfl, rfl, g2, atI_nat (j := 1) rfl, T.rd, _, rfl, g3, hq _ _ s1 q⟩
    · have s2 := s1.trans (same_new (o := HO.tup (row ++ [x])) hp)
      have q : SqT K (upd (upd H t (.tup [x])) p (.tup (row ++ [x]))) p (row ++ [x]) := SqT.of upd_same
      obtain ⟨g1, g2, g3⟩ := go p _ s2 q
      exact ⟨_, rfl, th, C, T.dx, _, _, rfl, g1, X.cl, X.rows, tF_get2, _, rfl, wt, _, _, _, rfl, rfl, g2, atI_nat (j := 1) rfl, T.rd, _, rfl, g3, hq _ _ s2 q⟩
abbrev s_do_fetch : Stmt := top 46
theorem sc_do_fetch : FnScope ["things", "k", "wish", "row"] ["things", "k", "wish"] (defScope s_do_fetch) := ⟨rfl, rfl, rfl, by decide +kernel, rfl, by decide +kernel, by decide +kernel⟩
theorem ok_do_fetch {f : Addr} {fd : FuncData} (F : Fun K "do_fetch" "do_fetch" s_do_fetch f fd) (X : TTxt K C) : FnOk P w K mg base CX0 1 f fd ["things", "k", "wish"] (spStep K C (dFetch K)) := by
  refine F.ok sc_do_fetch (fun vs H Q E h => ?_) (fun cdv A outer s H vs Q E hr h => ?_)
  · obtain ⟨th, wt, k, T, word, nm, rest, rfl, _⟩ := h
    rfl
  · obtain ⟨th, wt, k, T, word, nm, rest, rfl, hT, hW, hq⟩ := h
    have hu := hu_of hr
    obtain ⟨x, a, row, e, hR, le, few, hq⟩ := hq
    refine ⟨_, pss_cons (ps_set (i := 3) sc_do_fetch.nd rfl (.inl rfl) (pe_dget hu (pe_fld (pv 0) rfl) (pe_ix ix_tup (pv 2) pe_int (fun _ _ => rfl)) (fun _ _ => rfl)))
      (pss_cons (ps_dput hu (pe_fld (pv 0) rfl) (pe_ix ix_tup (pv 2) pe_int (fun _ _ => rfl)) (pe_slice sl_tup (pv 3) (po_some pe_int) po_none) rfl)
      (pss_one (ps_ret (pe_ix ix_tup (pv 3) pe_int (fun _ _ => rfl))))), ?_⟩
    refine ⟨_, rfl, th, C, T.dx, _, _, rfl, hT.ob, X.cl, X.rows, tF_get2, _, rfl, wt, _, _, _, rfl, rfl, hW, atI_nat (j := 1) rfl, T.rd, _, rfl, e ▸ DGet.k (k := Sum.inr nm) hT.r, ?_⟩
    have e0 : HT.sIx (x :: row).length 0 (some 1) = 1 := by
      show min 1 (row.length + 1) = 1
      omega
    have e1 : cutV (x :: row) (some 1) none = row := by
      unfold cutV
      rw [e0]
      show (List.take (row.length + 1 - 1) row) = row
      exact List.take_of_length_le (by omega)
    refine ⟨_, rfl, _, rfl, a, x :: row, rfl, hR, (fun z => by rw [e0] at z; exact absurd z.1 (by decide)), fun p hp => ?_⟩
    rw [e1]
    have sm := same_new (o := HO.tup row) hp
    have q : SqT K (upd H p (.tup row)) p row := SqT.of upd_same
    refine ⟨_, rfl, th, C, T.dx, _, _, rfl, sm _ _ hT.ob, X.cl, X.rows, tF_get2, _, rfl, wt, _, _, _, rfl, rfl, seqT_same sm hW, atI_nat (j := 1) rfl, T.rd, _, rfl, DPut.k (k := Sum.inr nm) (sm _ _ hT.r) few, ?_⟩
    have hR2 : SqT K (upd (upd H p (.tup row)) T.rd (.dK (putK T.rows (Sum.inr nm) (.ref p)))) a (x :: row) := by
      have z := seqT_same sm hR
      rcases z with (z | ⟨o, z⟩) | z
      · exact .inl (.inl (by rw [upd_ne (ne_of z (sm _ _ hT.r) (by intro y; cases y))]; exact z))
      · exact .inl (.inr ⟨o, by rw [upd_ne (ne_of z (sm _ _ hT.r) (by intro y; cases y))]; exact z⟩)
      · exact .inr z
    exact ⟨_, rfl, a, _, _, _, rfl, rfl, hR2, atI_nat (j := 0) rfl, hq p _ sm q⟩
abbrev s_do_step : Stmt := top 48
/-- a step, by its word -/
def spDoStep (K : PySem.W.Frag) (w : World) (pS : Addr) (S : Addr → Option Sp) : Sp := fun vs H Q _ => ∃ (th k : V) (wt f : Addr) (word : Str) (rest : List V) (sp : Sp), vs = [th, k, .ref wt] ∧ SqT K H wt (.str word :: rest) ∧ KDct K w pS word (.ref f) ∧ S f = some sp ∧ sp vs H Q (fun _ _ _ => False)
theorem sc_do_step : FnScope ["things", "k", "wish", "action"] ["things", "k", "wish"] (defScope s_do_step) := ⟨rfl, rfl, rfl, by decide +kernel, rfl, by decide +kernel, by decide +kernel⟩
theorem ok_do_step {f pS : Addr} {fd : FuncData} {k : Nat} {S : Addr → Option Sp} (F : Fun K "do_step" "do_step" s_do_step f fd) (mS : mg "STEPS" = some (.ref pS)) (A : ∀ f sp, S f = some sp → Held P w K mg base k f sp) : FnOk P w K mg base CX0 (k + 1) f fd ["things", "k", "wish"] (spDoStep K w pS S) := by
  refine F.ok sc_do_step (fun vs H Q E h => ?_) (fun cdv A' outer s H vs Q E hr h => ?_)
  · obtain ⟨th, k, wt, f, word, rest, sp, rfl, _⟩ := h
    rfl
  · obtain ⟨th, k, wt, f, word, rest, sp, rfl, hW, hK, hS, hq⟩ := h
    refine ⟨_, pss_cons (ps_set (i := 3) sc_do_step.nd rfl (.inl rfl) (pe_ix ix_kdict (pe_glob (v := .ref pS) rfl mS rfl) (pe_ix ix_tup (pv 2) pe_int (fun _ _ => rfl)) (fun _ _ => rfl)))
      (pss_one (ps_ret (pe_callA (i := 3) A hr rfl (.inl rfl) (pa_cons (pv 0) (pa_cons (pv 1) (pa_cons (pv 2) pa_nil)))))), ?_⟩
    exact ⟨_, rfl, wt, _, _, _, rfl, rfl, hW, atI_nat (j := 0) rfl, pS, word, .ref f, rfl, rfl, hK, f, sp, rfl, hS, _, rfl, _, rfl, _, rfl, hq⟩
end
end TW
namespace TW
open PySem PySem.Spec PyProof.Rows L2
abbrev sTI : Stmt := inClass (top 32) 0
abbrev sAgain : Stmt := top 34
abbrev sRoom : Stmt := top 35
abbrev sNeed : Stmt := top 36
def spTI (C : Addr) : Sp := fun vs H Q _ => ∃ (th dx : Addr) (a b c d : V), vs = [.ref th, a, b, c, d] ∧ H th = some (.ins C dx []) ∧ Q .non (upd H th (.ins C dx (tF a b c d)))
/-- new things as the old ones are -/
def spAgain (K : PySem.W.Frag) (C : Addr) : Sp := fun vs H Q _ => ∃ (th : Addr) (T : TS), vs = [.ref th] ∧ ThingsAt K C H th T ∧ ∀ (t2 dx cd hd rd : Addr) (G : Hp), H t2 = none → H dx = none → H cd = none → H hd = none → H rd = none → Same H G → ThingsAt K C G t2 { T with dx := dx, cd := cd, hd := hd, rd := rd } → Q (.ref t2) G
/-- whether a belt has room -/
def Roomy (K : PySem.W.Frag) (H : Hp) (T : TS) (s : Str) (b : Bool) : Prop := ∃ sz a row, valV T.sizes (Sum.inr s) = some sz ∧ valV T.rows (Sum.inr s) = some (.ref a) ∧ SqT K H a row ∧ ((sz = .non ∧ b = true) ∨ ∃ n : Int, sz = .int n ∧ b = decide ((row.length : Int) < n))
def spRoom (K : PySem.W.Frag) (C : Addr) : Sp := fun vs H Q _ => ∃ (th : Addr) (T : TS) (s : Str) (b : Bool), vs = [.ref th, .str s] ∧ ThingsAt K C H th T ∧ Roomy K H T s b ∧ Q (.bl b) H
/-- whether two values are the same, by a relation of the heap -/
def spSm (R : Hp → V → V → Bool → Prop) : Sp := fun vs H Q _ => ∃ (x y : V) (b : Bool), vs = [x, y] ∧ R H x y b ∧ ∀ H', Same H H' → Q (.bl b) H'
def Needs (K : PySem.W.Frag) (R : Hp → V → V → Bool → Prop) (H : Hp) (T : TS) (word : Str) (rest : List V) (b : Bool) : Prop :=
  (word = "until" → ∃ s x l v, rest = .str s :: x :: l ∧ valV T.cells (Sum.inr s) = some v ∧ R H v x b) ∧
  (word = "take" → ∃ s l v, rest = .str s :: l ∧ valV T.holders (Sum.inr s) = some v ∧ b = decide (v = .non)) ∧
  (word = "lay" → ∃ s l, rest = .str s :: l ∧ Roomy K H T s b) ∧
  (word = "fetch" → ∃ s l a row, rest = .str s :: l ∧ valV T.rows (Sum.inr s) = some (.ref a) ∧ SqT K H a row ∧ b = decide (0 < row.length)) ∧
  (word ≠ "until" → word ≠ "take" → word ≠ "lay" → word ≠ "fetch" → b = true)
def spNeed (K : PySem.W.Frag) (C : Addr) (R : Hp → V → V → Bool → Prop) : Sp := fun vs H Q _ => ∃ (th wt : Addr) (T : TS) (word : Str) (rest : List V) (b : Bool), vs = [.ref th, .ref wt] ∧ ThingsAt K C H th T ∧ SqT K H wt (.str word :: rest) ∧ Needs K R H T word rest b ∧ ∀ H', Same H H' → Q (.bl b) H'
section
variable {P : Program} {w : World} {K : PySem.W.Frag} {mg : Str → Option Value} {base : Heap} {C : Addr}
theorem scTI : FnScope ["self", "cells", "holders", "rows", "sizes"] ["self", "cells", "holders", "rows", "sizes"] (defScope sTI) := ⟨rfl, rfl, rfl, by decide +kernel, rfl, by decide +kernel, by decide +kernel⟩
theorem ok_TI {f : Addr} {fd : FuncData} (F : Fun K "__init__" "Things.__init__" sTI f fd) (T : TTxt K C) : FnOk P w K mg base CX0 1 f fd ["self", "cells", "holders", "rows", "sizes"] (spTI C) := by
  refine F.ok scTI (fun vs H Q E h => ?_) (fun cdv A outer s H vs Q E hr h => ?_)
  · obtain ⟨pl, dx, a, b, c, d, rfl, _⟩ := h
    rfl
  · obtain ⟨pl, dx, a, b, c, d, rfl, ho, k⟩ := h
    refine ⟨_, pss_cons (ps_fld (pv 0) (pv 1) rfl) (pss_cons (ps_fld (pv 0) (pv 2) rfl) (pss_cons (ps_fld (pv 0) (pv 3) rfl) (pss_one (ps_fld (pv 0) (pv 4) rfl)))), ?_⟩
    refine ⟨_, rfl, _, rfl, pl, C, dx, _, rfl, ho, T.cl, T.cells, (by show 0 < 1000; decide), ?_⟩
    rw [tF_make0]
    refine ⟨_, rfl, _, rfl, pl, C, dx, _, rfl, upd_same, T.cl, T.holders, (by show 1 < 1000; decide), ?_⟩
    rw [tF_make1, upd_upd]
    refine ⟨_, rfl, _, rfl, pl, C, dx, _, rfl, upd_same, T.cl, T.rows, (by show 2 < 1000; decide), ?_⟩
    rw [tF_make2, upd_upd]
    refine ⟨_, rfl, _, rfl, pl, C, dx, _, rfl, upd_same, T.cl, T.sizes, (by show 3 < 1000; decide), ?_⟩
    rw [tF_make3, upd_upd]
    exact k
theorem scAgain : FnScope ["things"] ["things"] (defScope sAgain) := ⟨rfl, rfl, rfl, by decide +kernel, rfl, by decide +kernel, by decide +kernel⟩
theorem ok_again {f fI : Addr} {fd fdI : FuncData} (F : Fun K "things_again" "things_again" sAgain f fd) (B : Blt mg) (X : TTxt K C) (M : Mk K C fI) (G : FnOk P w K mg base CX0 1 fI fdI ["self", "cells", "holders", "rows", "sizes"] (spTI C)) (mT : mg "Things" = some (.ref C)) (bI : Binds K fdI ["self", "cells", "holders", "rows", "sizes"] []) :
    FnOk P w K mg base CX0 3 f fd ["things"] (spAgain K C) := by
  refine F.ok scAgain (fun vs H Q E h => ?_) (fun cdv A outer s H vs Q E hr h => ?_)
  · obtain ⟨th, T, rfl, _⟩ := h
    rfl
  · obtain ⟨th, T, rfl, hT, k⟩ := h
    have hr2 : Room 2 _ := hr.mono (by omega)
    refine ⟨_, pss_one (ps_ret (pe_make M G hr2 rfl mT bI .nil pass0 (pa_cons (pe_callTy call_dictD (by rfl) B.dict (by decide +kernel) (pa_cons (pe_fld (pv 0) rfl) pa_nil)) (pa_cons (pe_callTy call_dictD (by rfl) B.dict (by decide +kernel) (pa_cons (pe_fld (pv 0) rfl) pa_nil))
      (pa_cons (pe_callTy call_dictD (by rfl) B.dict (by decide +kernel) (pa_cons (pe_fld (pv 0) rfl) pa_nil)) (pa_cons (pe_fld (pv 0) rfl) pa_nil)))))), ?_⟩
    refine ⟨_, rfl, th, C, T.dx, _, _, rfl, hT.ob, X.cl, X.cells, tF_get0, T.cd, T.cells, rfl, .inl hT.c, fun cd n1 => ?_⟩
    have s1 := same_new (o := HO.dK T.cells) n1
    refine ⟨_, rfl, th, C, T.dx, _, _, rfl, s1 _ _ hT.ob, X.cl, X.holders, tF_get1, T.hd, T.holders, rfl, .inl (s1 _ _ hT.h), fun hd n2 => ?_⟩
    have s2 := s1.trans (same_new (o := HO.dK T.holders) n2)
    refine ⟨_, rfl, th, C, T.dx, _, _, rfl, s2 _ _ hT.ob, X.cl, X.rows, tF_get2, T.rd, T.rows, rfl, .inl (s2 _ _ hT.r), fun rd n3 => ?_⟩
    have s3 := s2.trans (same_new (o := HO.dK T.rows) n3)
    refine ⟨_, rfl, th, C, T.dx, _, _, rfl, s3 _ _ hT.ob, X.cl, X.sizes, tF_get3, fun t2 dx n4 n5 ne => ?_⟩
    refine ⟨t2, dx, _, _, _, _, rfl, upd_same, rfl, ?_⟩
    rw [upd_upd]
    have f5 : upd (upd (upd (upd H cd (.dK T.cells)) hd (.dK T.holders)) rd (.dK T.rows)) dx (.own t2) t2 = none := by
      rw [upd_ne (Ne.symm ne)]
      exact n4
    have s5 : ∀ o, Same (upd (upd (upd H cd (.dK T.cells)) hd (.dK T.holders)) rd (.dK T.rows)) (upd (upd (upd (upd (upd H cd (.dK T.cells)) hd (.dK T.holders)) rd (.dK T.rows)) dx (.own t2)) t2 o) := fun o => (same_new n5).trans (same_new f5)
    have e3 := upd_free n4
    have e2 := upd_free e3.2
    have e1 := upd_free e2.2
    have d3 := upd_free n5
    have d2 := upd_free d3.2
    have d1 := upd_free d2.2
    have c2 := upd_free n3
    have c1 := upd_free c2.2
    have b1 := upd_free n2
    refine k t2 dx cd hd rd _ e1.2 d1.2 n1 b1.2 c1.2 (s3.trans (s5 _)) ⟨upd_same, s5 _ _ _ ?_, s5 _ _ _ ?_, s5 _ _ _ upd_same, (s3.trans (s5 _)) _ _ hT.s⟩
    · show upd (upd (upd H cd (.dK T.cells)) hd (.dK T.holders)) rd (.dK T.rows) cd = some (.dK T.cells)
      rw [upd_ne (Ne.symm c1.1), upd_ne (Ne.symm b1.1)]
      exact upd_same
    · show upd (upd (upd H cd (.dK T.cells)) hd (.dK T.holders)) rd (.dK T.rows) hd = some (.dK T.holders)
      rw [upd_ne (Ne.symm c2.1)]
      exact upd_same
theorem scRoom : FnScope ["things", "belt", "size"] ["things", "belt"] (defScope sRoom) := ⟨rfl, rfl, rfl, by decide +kernel, rfl, by decide +kernel, by decide +kernel⟩
theorem ok_room {f : Addr} {fd : FuncData} (F : Fun K "has_room" "has_room" sRoom f fd) (B : Blt mg) (X : TTxt K C) : FnOk P w K mg base CX0 1 f fd ["things", "belt"] (spRoom K C) := by
  refine F.ok scRoom (fun vs H Q E h => ?_) (fun cdv A outer s H vs Q E hr h => ?_)
  · obtain ⟨th, T, s, b, rfl, _⟩ := h
    rfl
  · obtain ⟨th, T, nm, b, rfl, hT, ⟨sz, a, row, e1, e2, hR, hk⟩, hq⟩ := h
    have hu := hu_of hr
    refine ⟨_, pss_cons (ps_set (i := 2) scRoom.nd rfl (.inl rfl) (pe_dget hu (pe_fld (pv 0) rfl) (pv 1) (fun _ _ => rfl)))
      (pss_one (ps_ret (pe_or (pe_cmpR op_isN (pv 2) pe_non (nomark _)) (pe_one (pe_cmpR op_lt (pe_callB call_len_seq (by rfl) B.len PySem.boot_len (pa_cons (pe_dget hu (pe_fld (pv 0) rfl) (pv 1) (fun _ _ => rfl)) pa_nil)) (pv 2) (nomark _)))))), ?_⟩
    refine ⟨_, rfl, th, C, T.dx, _, _, rfl, hT.ob, X.cl, X.sizes, tF_get3, _, rfl, T.sd, sz, rfl, e1 ▸ DGet.k (k := Sum.inr nm) hT.s, _, rfl, rfl, _, rfl, ?_⟩
    rcases hk with ⟨rfl, rfl⟩ | ⟨n, rfl, rfl⟩
    · exact iteT hq
    · refine iteF ?_
      exact ⟨_, rfl, th, C, T.dx, _, _, rfl, hT.ob, X.cl, X.rows, tF_get2, _, rfl, T.rd, _, rfl, e2 ▸ DGet.k (k := Sum.inr nm) hT.r, a, _, rfl, .inr hR, _, rfl, _, _, rfl, rfl, hq⟩
end
end TW
namespace TW
open PySem PySem.Spec PyProof.Rows L2
section
variable {P : Program} {w : World} {K : PySem.W.Frag} {mg : Str → Option Value} {base : Heap} {C : Addr} {n : Nat}
theorem scNeed : FnScope ["things", "wish", "word"] ["things", "wish"] (defScope sNeed) := ⟨rfl, rfl, rfl, by decide +kernel, rfl, by decide +kernel, by decide +kernel⟩
theorem ok_need {f fS fR : Addr} {fd fdS fdR : FuncData} {R : Hp → V → V → Bool → Prop} (F : Fun K "need_not_wait" "need_not_wait" sNeed f fd) (B : Blt mg) (X : TTxt K C)
    (S : FnOk P w K mg base CX0 (n + 1) fS fdS ["one", "other"] (spSm R)) (mS : mg "same" = some (.ref fS)) (kS : PySem.W.keepIn K (.ref fS) = true) (bS : Binds K fdS ["one", "other"] [])
    (G : FnOk P w K mg base CX0 1 fR fdR ["things", "belt"] (spRoom K C)) (mG : mg "has_room" = some (.ref fR)) (kG : PySem.W.keepIn K (.ref fR) = true) (bG : Binds K fdR ["things", "belt"] []) :
    FnOk P w K mg base CX0 (n + 2) f fd ["things", "wish"] (spNeed K C R) := by
  refine F.ok scNeed (fun vs H Q E h => ?_) (fun cdv A outer s H vs Q E hr h => ?_)
  · obtain ⟨th, wt, T, word, rest, b, rfl, _⟩ := h
    rfl
  · obtain ⟨th, wt, T, word, rest, b, rfl, hT, hW, ⟨k1, k2, k3, k4, k5⟩, hq⟩ := h
    have hu := hu_of hr
    have hrS : Room (n + 1) _ := hr.mono (by omega)
    have hr1 : Room 1 _ := hr.mono (by omega)
    refine ⟨_, pss_cons (ps_set (i := 2) scNeed.nd rfl (.inl rfl) (pe_ix ix_tup (pv 1) pe_int (fun _ _ => rfl)))
      (pss_cons (ps_if (pt_cmpR op_eq (pv 2) pe_str (nomark _)) (pss_one (ps_ret (pe_call S hrS rfl mS kS bS .nil pass0 (pa_cons (pe_dget hu (pe_fld (pv 0) rfl) (pe_ix ix_tup (pv 1) pe_int (fun _ _ => rfl)) (fun _ _ => rfl)) (pa_cons (pe_ix ix_tup (pv 1) pe_int (fun _ _ => rfl)) pa_nil))))) pss_nil)
      (pss_cons (ps_if (pt_cmpR op_eq (pv 2) pe_str (nomark _)) (pss_one (ps_ret (pe_cmpR op_isN (pe_dget hu (pe_fld (pv 0) rfl) (pe_ix ix_tup (pv 1) pe_int (fun _ _ => rfl)) (fun _ _ => rfl)) pe_non (nomark _)))) pss_nil)
      (pss_cons (ps_if (pt_cmpR op_eq (pv 2) pe_str (nomark _)) (pss_one (ps_ret (pe_call G hr1 rfl mG kG bG .nil pass0 (pa_cons (pv 0) (pa_cons (pe_ix ix_tup (pv 1) pe_int (fun _ _ => rfl)) pa_nil))))) pss_nil)
      (pss_cons (ps_if (pt_cmpR op_eq (pv 2) pe_str (nomark _)) (pss_one (ps_ret (pe_cmpR op_gt (pe_callB call_len_seq (by rfl) B.len PySem.boot_len (pa_cons (pe_dget hu (pe_fld (pv 0) rfl) (pe_ix ix_tup (pv 1) pe_int (fun _ _ => rfl)) (fun _ _ => rfl)) pa_nil)) pe_int (nomark _)))) pss_nil)
      (pss_one (ps_ret pe_bl)))))), ?_⟩
    refine ⟨_, rfl, wt, _, _, _, rfl, rfl, hW, atI_nat (j := 0) rfl, _, rfl, rfl, _, rfl, ?_⟩
    by_cases c1 : word = "until"
    · rw [decide_eq_true (by rw [c1])]
      refine iteT ?_
      obtain ⟨nm, x, l, v, rfl, e, hR⟩ := k1 c1
      exact ⟨_, rfl, th, C, T.dx, _, _, rfl, hT.ob, X.cl, X.cells, tF_get0, _, rfl, wt, _, _, _, rfl, rfl, hW, atI_nat (j := 1) rfl, T.cd, v, rfl, e ▸ DGet.k (k := Sum.inr nm) hT.c, _, rfl, wt, _, _, _, rfl, rfl, hW, atI_nat (j := 2) rfl, v, x, b, rfl, hR, hq⟩
    rw [decide_eq_false (fun z => c1 (V.str.inj z))]
    refine iteF ?_
    refine ⟨_, rfl, rfl, _, rfl, ?_⟩
    by_cases c2 : word = "take"
    · rw [decide_eq_true (by rw [c2])]
      refine iteT ?_
      obtain ⟨nm, l, v, rfl, e, rfl⟩ := k2 c2
      exact ⟨_, rfl, th, C, T.dx, _, _, rfl, hT.ob, X.cl, X.holders, tF_get1, _, rfl, wt, _, _, _, rfl, rfl, hW, atI_nat (j := 1) rfl, T.hd, v, rfl, e ▸ DGet.k (k := Sum.inr nm) hT.h, rfl, hq _ (Same.refl _)⟩
    rw [decide_eq_false (fun z => c2 (V.str.inj z))]
    refine iteF ?_
    refine ⟨_, rfl, rfl, _, rfl, ?_⟩
    by_cases c3 : word = "lay"
    · rw [decide_eq_true (by rw [c3])]
      refine iteT ?_
      obtain ⟨nm, l, rfl, hR⟩ := k3 c3
      exact ⟨_, rfl, _, rfl, wt, _, _, _, rfl, rfl, hW, atI_nat (j := 1) rfl, th, T, nm, b, rfl, hT, hR, hq _ (Same.refl _)⟩
    rw [decide_eq_false (fun z => c3 (V.str.inj z))]
    refine iteF ?_
    refine ⟨_, rfl, rfl, _, rfl, ?_⟩
    by_cases c4 : word = "fetch"
    · rw [decide_eq_true (by rw [c4])]
      refine iteT ?_
      obtain ⟨nm, l, a, row, rfl, e, hR, rfl⟩ := k4 c4
      refine ⟨_, rfl, th, C, T.dx, _, _, rfl, hT.ob, X.cl, X.rows, tF_get2, _, rfl, wt, _, _, _, rfl, rfl, hW, atI_nat (j := 1) rfl, T.rd, _, rfl, e ▸ DGet.k (k := Sum.inr nm) hT.r, a, _, rfl, .inr hR, _, _, rfl, rfl, ?_⟩
      have z := hq _ (Same.refl _)
      have e0 : decide ((0 : Int) < (row.length : Int)) = decide (0 < row.length) := by
        by_cases c : 0 < row.length
        · rw [decide_eq_true c, decide_eq_true (by omega)]
        · rw [decide_eq_false c, decide_eq_false (by omega)]
      rw [← e0] at z
      exact z
    rw [decide_eq_false (fun z => c4 (V.str.inj z))]
    refine iteF ?_
    have e := k5 c1 c2 c3 c4
    subst e
    exact hq _ (Same.refl _)
abbrev s_do_trade : Stmt := top 41
abbrev dTrade (R : Hp → V → V → Bool → Prop) : TS → Int → Str → List V → Hp → VK → Prop := fun T _ s rest H Q => ∃ x y l v b, rest = x :: y :: l ∧ valV T.cells (Sum.inr s) = some v ∧ T.cells.length < sizeLine ∧ R H v x b ∧ ∀ H', Same H H' → (b = false → Q (.bl false) H') ∧ (b = true → Q (.bl true) (upd H' T.cd (.dK (putK T.cells (Sum.inr s) y))))
theorem sc_do_trade : FnScope ["things", "k", "wish"] ["things", "k", "wish"] (defScope s_do_trade) := ⟨rfl, rfl, rfl, by decide +kernel, rfl, by decide +kernel, by decide +kernel⟩
theorem ok_do_trade {f fS : Addr} {fd fdS : FuncData} {R : Hp → V → V → Bool → Prop} (F : Fun K "do_trade" "do_trade" s_do_trade f fd) (X : TTxt K C)
    (S : FnOk P w K mg base CX0 (n + 1) fS fdS ["one", "other"] (spSm R)) (mS : mg "same" = some (.ref fS)) (kS : PySem.W.keepIn K (.ref fS) = true) (bS : Binds K fdS ["one", "other"] []) : FnOk P w K mg base CX0 (n + 2) f fd ["things", "k", "wish"] (spStep K C (dTrade R)) := by
  refine F.ok sc_do_trade (fun vs H Q E h => ?_) (fun cdv A outer s H vs Q E hr h => ?_)
  · obtain ⟨th, wt, k, T, word, nm, rest, rfl, _⟩ := h
    rfl
  · obtain ⟨th, wt, k, T, word, nm, rest, rfl, hT, hW, hq⟩ := h
    have hu := hu_of hr
    have hrS : Room (n + 1) _ := hr.mono (by omega)
    obtain ⟨x, y, l, v, b, rfl, e, few, hR, hq⟩ := hq
    refine ⟨_, pss_cons (ps_if (pt_not (pt_val (pe_call S hrS rfl mS kS bS .nil pass0 (pa_cons (pe_dget hu (pe_fld (pv 0) rfl) (pe_ix ix_tup (pv 2) pe_int (fun _ _ => rfl)) (fun _ _ => rfl)) (pa_cons (pe_ix ix_tup (pv 2) pe_int (fun _ _ => rfl)) pa_nil))))) (pss_one (ps_ret pe_bl)) pss_nil)
      (pss_cons (ps_dput hu (pe_fld (pv 0) rfl) (pe_ix ix_tup (pv 2) pe_int (fun _ _ => rfl)) (pe_ix ix_tup (pv 2) pe_int (fun _ _ => rfl)) rfl) (pss_one (ps_ret pe_bl))), ?_⟩
    refine ⟨_, rfl, th, C, T.dx, _, _, rfl, hT.ob, X.cl, X.cells, tF_get0, _, rfl, wt, _, _, _, rfl, rfl, hW, atI_nat (j := 1) rfl, T.cd, v, rfl, e ▸ DGet.k (k := Sum.inr nm) hT.c, _, rfl, wt, _, _, _, rfl, rfl, hW, atI_nat (j := 2) rfl, v, x, b, rfl, hR, fun H' sm => ⟨_, rfl, ?_⟩⟩
    cases b with
    | false => exact iteT ((hq H' sm).1 rfl)
    | true =>
      refine iteF ?_
      exact ⟨_, rfl, wt, _, _, _, rfl, rfl, seqT_same sm hW, atI_nat (j := 3) rfl, _, rfl, th, C, T.dx, _, _, rfl, sm _ _ hT.ob, X.cl, X.cells, tF_get0, _, rfl, wt, _, _, _, rfl, rfl, seqT_same sm hW, atI_nat (j := 1) rfl, T.cd, _, rfl, DPut.k (k := Sum.inr nm) (sm _ _ hT.c) few, (hq H' sm).2 rfl⟩
end
end TW
namespace L2
open PySem PySem.Spec PyProof.Rows
/-- a dict comprehension over a dict's keys -/
theorem dc_keys {d D : Addr} {o : Obj} {kvs : List (Key × V)} {g : TG} {tt : TT} {tk tv : TE} {vs : List Nat} {σ : St} {H1 : Hp} {Qd : Hp → Prop} (Pv : Nat → Hp → Prop) (h0 : Pv 0 (upd H1 D (.dK []))) (hl : ∀ i H, i ≤ kvs.length → Pv i H → H d = some (.frz o (.dK kvs)))
    (hs : ∀ i k v H, kvs[i]? = some (k, v) → Pv i H → g (kV k) (wipe σ vs) H fun σ2 H2 => wipe σ2 vs = wipe σ vs ∧ tt σ2 H2 fun b H3 =>
      if b = true then tk σ2 H3 fun y H4 => tv σ2 H4 fun z H5 => ∃ kvs k, y = kV k ∧ H5 D = some (.dK kvs) ∧ kvs.length < sizeLine ∧ Pv (i + 1) (upd H5 D (.dK (putK kvs k z))) else Pv (i + 1) H3) (hd : ∀ H, Pv kvs.length H → Qd H) :
    ∃ W : Nat → Nat → Hp → Prop, (∃ m, W 0 m (upd H1 D (.dK []))) ∧ ∀ i m H, W i m H →
      ((Itk d o kvs).stop i H ∧ Qd H) ∨ ((Itk d o kvs).go i H ∧ ∃ Nx : Hp → Prop, (∀ H', Nx H' → ∃ m', m' < m ∧ W (i + 1) m' H') ∧ ∀ x H', (Itk d o kvs).yld i H x H' → g x (wipe σ vs) H' fun σ2 H2 => wipe σ2 vs = wipe σ vs ∧ tt σ2 H2 fun b H3 =>
        if b = true then tk σ2 H3 fun y H4 => tv σ2 H4 fun z H5 => ∃ kvs k, y = kV k ∧ H5 D = some (.dK kvs) ∧ kvs.length < sizeLine ∧ Nx (upd H5 D (.dK (putK kvs k z))) else Nx H3) := by
  refine ⟨fun i m H => m = kvs.length - i ∧ i ≤ kvs.length ∧ Pv i H, ⟨kvs.length, by simp, Nat.zero_le _, h0⟩, ?_⟩
  rintro i m H ⟨rfl, hi, p⟩
  have q := hl i H hi p
  by_cases hlt : i < kvs.length
  · refine .inr ⟨⟨q, hlt⟩, Pv (i + 1), fun H' p' => ⟨kvs.length - (i + 1), by omega, rfl, hlt, p'⟩, fun x H' y => ?_⟩
    obtain ⟨e, k, v, e2, rfl⟩ := y
    subst e
    exact hs i k v _ e2 p
  · have e : i = kvs.length := by omega
    subst e
    exact .inl ⟨⟨q, Nat.le_refl _⟩, hd H p⟩
section
variable {X : Cx}
/-- x = {k: v for ..} on one line, x a local name -/
theorem ps_setDc {i : Nat} {y : Str} {py : Pos} {kx vx tg iter : Expr} {ifs : List Expr} {scope : Scope} {own : List (Str × Nat)} {pos spos : Pos} {wi : TI} {g : TG} {tt : TT} {tk tv : TE} (hc : X.calm = true) (hN : X.N.Nodup) (hy : X.N[i]? = some y) (hyl : X.env.scope.names.lookup y = some .local)
    (hsw : swapsWith (.DictComp kx vx [⟨tg, iter, ifs, 0⟩] scope pos) (some (.Name y py)) spos.line X.env = pure true) (hi : PI X tg iter wi) (ok : BlkOk X.N X.env.scope scope own)
    (hg : ∀ (s : Shared) (H : Hp) (C : Addr) (cl : List (Str × Addr)) (fp : List Addr), PG (X.blk s H scope (compEnvC scope cl C X.env) fp) tg g) (ht : ∀ (s : Shared) (H : Hp) (C : Addr) (cl : List (Str × Addr)) (fp : List Addr), PTs (X.blk s H scope (compEnvC scope cl C X.env) fp) ifs tt)
    (hk : ∀ (s : Shared) (H : Hp) (C : Addr) (cl : List (Str × Addr)) (fp : List Addr), PE (X.blk s H scope (compEnvC scope cl C X.env) fp) kx tk)
    (he : ∀ (s : Shared) (H : Hp) (C : Addr) (cl : List (Str × Addr)) (fp : List Addr), PE (X.blk s H scope (compEnvC scope cl C X.env) fp) vx tv) (hs : ∀ x, foldedSetIterable iter X.env x = pure x := by intro _; rfl) :
    PS X (.Assign [.Name y py] (.DictComp kx vx [⟨tg, iter, ifs, 0⟩] scope pos) spos) (tAsg (tDc wi g tt tk tv (own.map (·.2))) (gName i)) := by
  refine ⟨fun pins s σ H D I h => ?_⟩
  rw [exec_Assign_Name_used _ _ _ _ hsw]
  refine wpAny_bind (wpAny_standAt (wpAny_bind ?_))
  show wpAny _ X.A (do let _ ← comprehension (.DictComp kx vx [⟨tg, iter, ifs, 0⟩] scope pos) scope X.env (firstIterPos [⟨tg, iter, ifs, 0⟩] pos) newDict false (eval iter X.env) (some (assign (.Name y py) X.env))) _ _ s
  have h : tDc wi g tt tk tv (own.map (·.2)) σ H (fun x H1 => gName i x σ H1 D.nx) := h
  refine wpAny_bind (thn (dc_core (Qf := fun _ s' => SP X pins D .next s') hc hN I hi ok hg ht hk he hs h fun L C s' m H' I' q hn f => ?_) fun _ s' hq => wpAny_pure (wpAny_pure hq))
  show wpAny _ _ (assign (.Name y py) X.env (.ref L)) _ _ _
  refine wpAny_assign_Name (store_ok2 (v := V.ref L) I' hN hy (.inl hyl) rfl (fun s2 I2 ⟨a, sb, ha⟩ => ?_) (.inr hyl))
  obtain ⟨f0, f1, f2, f3, f4, f5⟩ := f
  have other : C ≠ a := by
    rcases ha with z | z
    · exact z ▸ f1
    · exact fun e => f4 y a z e.symm
  exact ⟨m, hn.sameBut sb other, fun h3 sb3 => ⟨_, H', I2.turned (t' := s2.toks) (fun b o hb e => (sb3.2 b hb).trans e) f0 f1 f3 f4 f5, q⟩⟩
theorem sw_dc {kx vx : Expr} {gs : List Comprehension} {scope : Scope} {pos py : Pos} {y : Str} {l : Nat} {env : Env} (hk : env.scope.kind = .function) (hy : env.scope.names.lookup y = some .local) (hl : (py.line == pos.line) = true)
    (ha : (scope.names.any fun (n, k) => n == y && (k == .local || k == .cell)) = false) : swapsWith (.DictComp kx vx gs scope pos) (some (.Name y py)) l env = pure true := by
  have ky : env.kindOf y = some .local := hy
  have hb : env.blockKind = .function := by
    unfold Env.blockKind
    rw [hk]
    rfl
  unfold swapsWith
  simp only [hb, ky, ha, Expr.pos, hl]
  rfl
end
end L2
namespace TW
open PySem PySem.Spec PyProof.Rows L2
abbrev sFirst : Stmt := top 33
/-- the things of a shop, new -/
def spFirst (K : PySem.W.Frag) (CS C : Addr) : Sp := fun vs H Q _ => ∃ (sh : Addr) (S : SS), vs = [.ref sh] ∧ ShopAt K CS H sh S ∧ S.locks.Nodup ∧ S.beltN.Nodup ∧ S.locks.length ≤ 1000 ∧ S.belts.length ≤ 1000 ∧
  ∀ (t2 dx cd hd rd : Addr) (rows : List (Key × V)) (G : Hp), H t2 = none → H cd = none → H hd = none → H rd = none → Same H G →
    ThingsAt K C G t2 ⟨dx, cd, S.cells, hd, S.locks.map (fun s => (Sum.inr s, V.non)), rd, rows, S.bd, S.belts⟩ → rows.map (·.1) = S.beltN.map Sum.inr → (∀ p ∈ rows, ∃ a, p.2 = .ref a ∧ SqT K G a []) → Q (.ref t2) G
theorem valV_none {l : List (Key × V)} {k : Key} (h : k ∉ l.map (·.1)) : valV l k = none := by
  induction l with
  | nil => rfl
  | cons p r ih =>
    rw [List.map_cons, List.mem_cons, not_or] at h
    rw [valV_neg (fun z => h.1 z.symm)]
    exact ih h.2
/-- the keys of the first i names, one more -/
theorem fresh_key {l : List Str} {i : Nat} {s : Str} (hn : l.Nodup) (e : l[i]? = some s) : (Sum.inr s : Key) ∉ (l.take i).map Sum.inr := by
  intro z
  obtain ⟨t, m, q⟩ := List.mem_map.mp z
  have q : t = s := Sum.inr.inj q
  subst q
  obtain ⟨j, hj, e2⟩ := List.mem_iff_getElem.mp m
  rw [List.length_take] at hj
  rw [List.getElem_take] at e2
  obtain ⟨hi, e3⟩ := List.getElem?_eq_some_iff.mp e
  have hlt : j < i := Nat.lt_of_lt_of_le hj (Nat.min_le_left _ _)
  exact List.pairwise_iff_getElem.mp hn j i (Nat.lt_trans hlt hi) hi hlt (e2.trans e3.symm)
theorem take_one {α : Type} {l : List α} {i : Nat} {s : α} (e : l[i]? = some s) : l.take (i + 1) = l.take i ++ [s] := by
  rw [List.take_add_one, e]
  rfl
section
variable {P : Program} {w : World} {K : PySem.W.Frag} {mg : Str → Option Value} {base : Heap} {C CS : Addr}
theorem scFirst : FnScope ["shop", "holders", "rows", "lock", "belt"] ["shop"] (defScope sFirst) := ⟨rfl, rfl, rfl, by decide +kernel, rfl, by decide +kernel, by decide +kernel⟩
theorem ok_first {f fI : Addr} {fd fdI : FuncData} (F : Fun K "first_things" "first_things" sFirst f fd) (B : Blt mg) (X : TTxt K C) (XS : STxt K CS) (M : Mk K C fI) (G : FnOk P w K mg base CX0 1 fI fdI ["self", "cells", "holders", "rows", "sizes"] (spTI C)) (mT : mg "Things" = some (.ref C)) (bI : Binds K fdI ["self", "cells", "holders", "rows", "sizes"] []) :
    FnOk P w K mg base CX0 3 f fd ["shop"] (spFirst K CS C) := by
  refine F.ok scFirst (fun vs H Q E h => ?_) (fun cdv A outer s H vs Q E hr h => ?_)
  · obtain ⟨sh, S, rfl, _⟩ := h
    rfl
  · obtain ⟨sh, S, rfl, hS, n1, n2, l1, l2, k⟩ := h
    have hr2 : Room 2 _ := hr.mono (by omega)
    refine ⟨_, pss_cons (ps_setDc (i := 1) (own := [("lock", 3)]) rfl scFirst.nd rfl rfl (sw_dc rfl rfl (by decide) (by decide)) (pi_tup (pe_fld (pv 0) rfl)) (blkOk_by (N := ["shop", "holders", "rows", "lock", "belt"]) (sc := defScope sFirst) (by decide +kernel))
        (fun _ _ _ _ _ => pg_name (i := 3) scFirst.nd rfl (Or.inl rfl)) (fun _ _ _ _ _ => pts_nil) (fun _ _ _ _ _ => pv 3) (fun _ _ _ _ _ => pe_non))
      (pss_cons (ps_lock (ps_setDc (i := 2) (own := [("belt", 4)]) rfl scFirst.nd rfl rfl (sw_dc rfl rfl (by decide) (by decide)) (pi_keys (pe_fld (pv 0) rfl)) (blkOk_by (N := ["shop", "holders", "rows", "lock", "belt"]) (sc := defScope sFirst) (by decide +kernel))
        (fun _ _ _ _ _ => pg_name (i := 4) scFirst.nd rfl (Or.inl rfl)) (fun _ _ _ _ _ => pts_nil) (fun _ _ _ _ _ => pv 4) (fun _ _ _ _ _ => pe_tup pa_nil)))
      (pss_one (ps_ret (pe_make M G hr2 rfl mT bI .nil pass0 (pa_cons (pe_callTy call_dictD (by rfl) B.dict (by decide +kernel) (pa_cons (pe_fld (pv 0) rfl) pa_nil)) (pa_cons (pv 1) (pa_cons (pv 2) (pa_cons (pe_fld (pv 0) rfl) pa_nil)))))))), ?_⟩
    refine ⟨_, rfl, sh, CS, S.dx, _, _, rfl, hS.ob, XS.cl, XS.locks, sF_get2, S.lt, rfl, ⟨_, hS.l⟩, fun hd h1 => ?_⟩
    refine dc_tup (K := K) (a := S.lt) (xs := S.locks.map V.str) (fun i H' => Same H H' ∧ H' hd = some (.dK ((S.locks.take i).map fun s => (Sum.inr s, V.non)))) ⟨same_new h1, upd_same⟩ (fun i H' _ p => seqT_same p.1 hS.l) (fun i x H' e p => ?_) (fun H1 p => ?_)
    · rw [List.getElem?_map] at e
      cases q : S.locks[i]? with
      | none =>
        rw [q] at e
        cases e
      | some nm =>
        rw [q] at e
        obtain rfl := (Option.some.inj e).symm
        refine ⟨rfl, ?_⟩
        unfold tYes
        dsimp only
        refine iteT ?_
        refine ⟨_, rfl, _, Sum.inr nm, rfl, p.2, ?_, fun b o z => ?_, ?_⟩
        · rw [List.length_map, List.length_take]
          exact Nat.lt_of_lt_of_le (Nat.lt_succ_of_le (Nat.le_trans (Nat.min_le_right _ _) l1)) (small_sz (by decide))
        · rw [upd_ne (ne_of_none z h1)]
          exact p.1 b o z
        · rw [upd_same, putK_new _ (valV_none (by rw [List.map_map]; exact fresh_key n1 q)), take_one q, List.map_append]
          rfl
    · have e1 : H1 hd = some (.dK (S.locks.map fun s => (Sum.inr s, V.non))) := by
        have z := p.2
        rw [List.length_map, List.take_length] at z
        exact z
      have q1 := p.1
      have hS1 := hS.same q1
      refine ⟨S.bd, _, hS1.b, trivial, fun od => ?_⟩
      have ob2 : upd H1 S.bd (.frz od (.dK S.belts)) sh = _ := (upd_ne (ne_of hS1.ob hS1.b (by intro z; cases z))).trans hS1.ob
      refine ⟨_, rfl, sh, CS, S.dx, _, _, rfl, ob2, XS.cl, XS.belts, sF_get3, S.bd, od, rfl, .inl ⟨S.belts, upd_same, fun rd h2 => ?_⟩⟩
      have f2 := upd_free h2
      refine dc_keys (fun i H' => (∀ b o, H1 b = some o → b ≠ S.bd → H' b = some o) ∧ H' S.bd = some (.frz od (.dK S.belts)) ∧ ∃ rows : List (Key × V), H' rd = some (.dK rows) ∧ rows.map (·.1) = (S.beltN.take i).map Sum.inr ∧ ∀ p ∈ rows, ∃ a, p.2 = .ref a ∧ H' a = some (.tup []))
        ⟨fun b o z ne => by rw [upd_ne (ne_of_none z f2.2), upd_ne ne]; exact z, by rw [upd_ne (Ne.symm f2.1)]; exact upd_same, [], upd_same, rfl, fun p hp => (nomatch hp)⟩ (fun i H' _ p => p.2.1) (fun i ky v H' e p => ?_) (fun H3 p => ?_)
      · obtain ⟨old, pb, rows, pr, pk, pv'⟩ := p
        have kx : (S.belts.map (·.1))[i]? = some ky := by
          rw [List.getElem?_map, e]
          rfl
        rw [hS.bn, List.getElem?_map] at kx
        cases q : S.beltN[i]? with
        | none =>
          rw [q] at kx
          cases kx
        | some nm =>
          rw [q] at kx
          obtain rfl := (Option.some.inj kx).symm
          refine ⟨rfl, ?_⟩
          unfold tYes
          dsimp only
          refine iteT ?_
          refine ⟨_, rfl, small_sz (n := 0) (by decide), fun t ht => ?_⟩
          have tr : rd ≠ t := ne_of_none pr ht
          have lr : rows.length = min i S.beltN.length := by
            have z := congrArg List.length pk
            rw [List.length_map, List.length_map, List.length_take] at z
            exact z
          have lb : S.belts.length = S.beltN.length := by
            have z := congrArg List.length hS.bn
            rw [List.length_map, List.length_map] at z
            exact z
          have en : putK rows (Sum.inr nm) (V.ref t) = rows ++ [(Sum.inr nm, V.ref t)] := putK_new _ (valV_none (by rw [pk]; exact fresh_key n2 q))
          refine ⟨rows, Sum.inr nm, rfl, by rw [upd_ne tr]; exact pr, ?_, fun b o z ne => ?_, ?_, _, upd_same, ?_, fun z hz => ?_⟩
          · rw [lr]
            exact Nat.lt_of_lt_of_le (Nat.lt_succ_of_le (Nat.le_trans (Nat.min_le_right _ _) (lb ▸ l2))) (small_sz (by decide))
          · rw [upd_ne (ne_of_none z f2.2), upd_ne (ne_of_none (old b o z ne) ht)]
            exact old b o z ne
          · rw [upd_ne (Ne.symm f2.1), upd_ne (ne_of_none pb ht)]
            exact pb
          · rw [en, List.map_append, pk, take_one q, List.map_append]
            rfl
          · rw [en] at hz
            rcases List.mem_append.mp hz with m | m
            · obtain ⟨a, e3, e4⟩ := pv' z m
              refine ⟨a, e3, ?_⟩
              rw [upd_ne (ne_of e4 pr (by intro y; cases y)), upd_ne (ne_of_none e4 ht)]
              exact e4
            · obtain rfl := List.mem_singleton.mp m
              refine ⟨t, rfl, ?_⟩
              rw [upd_ne (Ne.symm tr)]
              exact upd_same
      · obtain ⟨old, pb, rows, pr, pk, pv'⟩ := p
        refine ⟨pb, ?_⟩
        have lb : S.belts.length = S.beltN.length := by
          have z := congrArg List.length hS.bn
          rw [List.length_map, List.length_map] at z
          exact z
        rw [lb, List.take_length] at pk
        have s14 : Same H1 (upd H3 S.bd (.dK S.belts)) := fun b o z => by
          by_cases c : b = S.bd
          · subst c
            rw [hS1.b] at z
            rw [upd_same]
            exact z
          · rw [upd_ne c]
            exact old b o z c
        have r4 : upd H3 S.bd (.dK S.belts) rd = some (.dK rows) := by
          rw [upd_ne f2.1]
          exact pr
        have v4 : ∀ p ∈ rows, ∃ a, p.2 = V.ref a ∧ upd H3 S.bd (.dK S.belts) a = some (.tup []) := fun p hp => by
          obtain ⟨a, e3, e4⟩ := pv' p hp
          refine ⟨a, e3, ?_⟩
          rw [upd_ne (ne_of e4 pb (by intro y; cases y))]
          exact e4
        generalize w4 : upd H3 S.bd (.dK S.belts) = H4 at s14 r4 v4 ⊢
        have s4 := q1.trans s14
        have hS4 := hS.same s4
        refine ⟨_, rfl, sh, CS, S.dx, _, _, rfl, hS4.ob, XS.cl, XS.cells, sF_get1, S.cd, S.cells, rfl, .inl hS4.c, fun cd n3 => ?_⟩
        have s5 := same_new (o := HO.dK S.cells) n3
        refine ⟨_, rfl, _, rfl, _, rfl, sh, CS, S.dx, _, _, rfl, s5 _ _ hS4.ob, XS.cl, XS.belts, sF_get3, fun t2 dx n4 n5 ne => ?_⟩
        refine ⟨t2, dx, _, _, _, _, rfl, upd_same, rfl, ?_⟩
        rw [upd_upd]
        have s6 : ∀ o, Same (upd H4 cd (.dK S.cells)) (upd (upd (upd H4 cd (.dK S.cells)) dx (.own t2)) t2 o) := fun o => (same_new n5).trans (same_new (by rw [upd_ne (Ne.symm ne)]; exact n4))
        have g4 := upd_free n4
        refine k t2 dx cd hd rd rows _ (s4.free g4.2) (s4.free n3) h1 (q1.free f2.2) ((s4.trans s5).trans (s6 _)) ⟨upd_same, s6 _ _ _ upd_same, (s5.trans (s6 _)) _ _ (s14 _ _ e1), (s5.trans (s6 _)) _ _ r4, (s5.trans (s6 _)) _ _ hS4.b⟩ pk fun p hp => ?_
        obtain ⟨a, e3, e4⟩ := v4 p hp
        exact ⟨a, e3, SqT.of ((s5.trans (s6 _)) _ _ e4)⟩
end
end TW
namespace TW
open PySem PySem.Spec PyProof.Rows L2
theorem rF_n0_1 : ¬ (("shop" : Str) = "things") := by decide +kernel
theorem rF_n0_2 : ¬ (("shop" : Str) = "places") := by decide +kernel
theorem rF_n0_3 : ¬ (("shop" : Str) = "done") := by decide +kernel
theorem rF_n1_0 : ¬ (("things" : Str) = "shop") := by decide +kernel
theorem rF_n1_2 : ¬ (("things" : Str) = "places") := by decide +kernel
theorem rF_n1_3 : ¬ (("things" : Str) = "done") := by decide +kernel
theorem rF_n2_0 : ¬ (("places" : Str) = "shop") := by decide +kernel
theorem rF_n2_1 : ¬ (("places" : Str) = "things") := by decide +kernel
theorem rF_n2_3 : ¬ (("places" : Str) = "done") := by decide +kernel
theorem rF_n3_0 : ¬ (("done" : Str) = "shop") := by decide +kernel
theorem rF_n3_1 : ¬ (("done" : Str) = "things") := by decide +kernel
theorem rF_n3_2 : ¬ (("done" : Str) = "places") := by decide +kernel
/-- the attributes of a rF, in the order in which __init__ stores them -/
def rF (v0 v1 v2 v3 : V) : List (Str × V) := [("shop", v0), ("things", v1), ("places", v2), ("done", v3)]
theorem rF_get0 {v0 v1 v2 v3 : V} : (rF v0 v1 v2 v3).lookup ("shop" : Str) = some v0 := by
  unfold rF
  rw [lookup_put, if_pos rfl]
theorem rF_put0 {v0 v1 v2 v3 z : V} : putF "shop" z (rF v0 v1 v2 v3) = rF z v1 v2 v3 := by
  unfold rF
  simp only [putF, if_true]
theorem rF_get1 {v0 v1 v2 v3 : V} : (rF v0 v1 v2 v3).lookup ("things" : Str) = some v1 := by
  unfold rF
  rw [lookup_put, if_neg rF_n1_0, lookup_put, if_pos rfl]
theorem rF_put1 {v0 v1 v2 v3 z : V} : putF "things" z (rF v0 v1 v2 v3) = rF v0 z v2 v3 := by
  unfold rF
  simp only [putF, if_neg rF_n0_1, if_true]
theorem rF_get2 {v0 v1 v2 v3 : V} : (rF v0 v1 v2 v3).lookup ("places" : Str) = some v2 := by
  unfold rF
  rw [lookup_put, if_neg rF_n2_0, lookup_put, if_neg rF_n2_1, lookup_put, if_pos rfl]
theorem rF_put2 {v0 v1 v2 v3 z : V} : putF "places" z (rF v0 v1 v2 v3) = rF v0 v1 z v3 := by
  unfold rF
  simp only [putF, if_neg rF_n0_2, if_neg rF_n1_2, if_true]
theorem rF_get3 {v0 v1 v2 v3 : V} : (rF v0 v1 v2 v3).lookup ("done" : Str) = some v3 := by
  unfold rF
  rw [lookup_put, if_neg rF_n3_0, lookup_put, if_neg rF_n3_1, lookup_put, if_neg rF_n3_2, lookup_put, if_pos rfl]
theorem rF_put3 {v0 v1 v2 v3 z : V} : putF "done" z (rF v0 v1 v2 v3) = rF v0 v1 v2 z := by
  unfold rF
  simp only [putF, if_neg rF_n0_3, if_neg rF_n1_3, if_neg rF_n2_3, if_true]
theorem rF_make0 {v0 : V} : putF "shop" v0 ([] : List (Str × V)) = ([("shop", v0)] : List (Str × V)) := rfl
theorem rF_make1 {v0 v1 : V} : putF "things" v1 ([("shop", v0)] : List (Str × V)) = ([("shop", v0), ("things", v1)] : List (Str × V)) := by
  simp only [putF, if_neg rF_n0_1, if_true]
theorem rF_make2 {v0 v1 v2 : V} : putF "places" v2 ([("shop", v0), ("things", v1)] : List (Str × V)) = ([("shop", v0), ("things", v1), ("places", v2)] : List (Str × V)) := by
  simp only [putF, if_neg rF_n0_2, if_neg rF_n1_2, if_true]
theorem rF_make3 {v0 v1 v2 v3 : V} : putF "done" v3 ([("shop", v0), ("things", v1), ("places", v2)] : List (Str × V)) = ([("shop", v0), ("things", v1), ("places", v2), ("done", v3)] : List (Str × V)) := by
  simp only [putF, if_neg rF_n0_3, if_neg rF_n1_3, if_neg rF_n2_3, if_true]
theorem rF_no {v0 v1 v2 v3 : V} {m : Str} (h0 : ¬ m = ("shop" : Str)) (h1 : ¬ m = ("things" : Str)) (h2 : ¬ m = ("places" : Str)) (h3 : ¬ m = ("done" : Str)) : (rF v0 v1 v2 v3).lookup m = none := by
  unfold rF
  rw [lookup_put, if_neg h0, lookup_put, if_neg h1, lookup_put, if_neg h2, lookup_put, if_neg h3]
  rfl

structure RTxt (K : PySem.W.Frag) (C : Addr) : Prop where
  cl : Cls K C
  shop : NoAttr K C "shop"
  things : NoAttr K C "things"
  places : NoAttr K C "places"
  done : NoAttr K C "done"
/-- a place as it stands -/
structure PS where
  p : Addr
  dp : Addr
  an : Addr
  ans : List V
  pend : V
  fin : V
  tw : Addr
  words : List V
structure PlaceAt (K : PySem.W.Frag) (CP : Addr) (H : Hp) (x : PS) : Prop where
  ob : H x.p = some (.ins CP x.dp (pF (.ref x.an) x.pend x.fin (.ref x.tw)))
  a : SqT K H x.an x.ans
  w : SqT K H x.tw x.words
/-- a run -/
structure RS where
  dx : Addr
  sh : Addr
  th : Addr
  pl : Addr
  dn : Addr
  T : TS
  places : List PS
  done : List V
structure RunAt (K : PySem.W.Frag) (CR CT CP : Addr) (H : Hp) (r : Addr) (R : RS) : Prop where
  ob : H r = some (.ins CR R.dx (rF (.ref R.sh) (.ref R.th) (.ref R.pl) (.ref R.dn)))
  t : ThingsAt K CT H R.th R.T
  p : H R.pl = some (.lst (R.places.map fun x => V.ref x.p))
  e : ∀ x ∈ R.places, PlaceAt K CP H x
  d : H R.dn = some (.lst R.done)
/-- whether something is an integer -/
def Whl (K : PySem.W.Frag) (H : Hp) (x : V) (b : Bool) : Prop := ∃ T i j, TyX K H x (.type T) ∧ kitB T "int" = some i ∧ (i = true → kitB T "bool" = some j) ∧ b = (i && !j)
def spWhole (K : PySem.W.Frag) : Sp := fun vs H Q _ => ∃ x b, vs = [x] ∧ Whl K H x b ∧ Q (.bl b) H
/-- the number of a work, or none -/
def spPlace (K : PySem.W.Frag) (CR CT CP CW : Addr) : Sp := fun vs H Q E => ∃ (r : Addr) (R : RS) (x : V) (b : Bool), vs = [.ref r, x] ∧ RunAt K CR CT CP H r R ∧ Whl K H x b ∧ (b = false → EX E CW "number" x H) ∧
  (b = true → ∃ k : Int, x = .int k ∧ (∀ (n : Nat) y, k = (n : Int) → R.places[n]? = some y → Q (.ref y.p) H) ∧ (¬ (0 ≤ k ∧ k < (R.places.length : Int)) → EX E CW "number" x H))
section
variable {P : Program} {w : World} {K : PySem.W.Frag} {mg : Str → Option Value} {base : Heap} {CR CT CP CW : Addr} {H H' : Hp}
theorem ThingsAt.same {C th : Addr} {T : TS} (e : Same H H') (A : ThingsAt K C H th T) : ThingsAt K C H' th T := ⟨e _ _ A.ob, e _ _ A.c, e _ _ A.h, e _ _ A.r, e _ _ A.s⟩
theorem PlaceAt.same {x : PS} (e : Same H H') (A : PlaceAt K CP H x) : PlaceAt K CP H' x := ⟨e _ _ A.ob, seqT_same e A.a, seqT_same e A.w⟩
theorem RunAt.same {r : Addr} {R : RS} (e : Same H H') (A : RunAt K CR CT CP H r R) : RunAt K CR CT CP H' r R := ⟨e _ _ A.ob, A.t.same e, e _ _ A.p, fun x hx => (A.e x hx).same e, e _ _ A.d⟩
abbrev sWhole : Stmt := top 15
theorem scWhole : FnScope ["given"] ["given"] (defScope sWhole) := ⟨rfl, rfl, rfl, by decide +kernel, rfl, by decide +kernel, by decide +kernel⟩
theorem ok_whole {f : Addr} {fd : FuncData} (F : Fun K "is_whole" "is_whole" sWhole f fd) (B : Blt mg) : FnOk P w K mg base CX0 1 f fd ["given"] (spWhole K) := by
  refine F.ok scWhole (fun vs H Q E h => ?_) (fun cdv A outer s H vs Q E hr h => ?_)
  · obtain ⟨x, b, rfl, _⟩ := h
    rfl
  · obtain ⟨x, b, rfl, ⟨T, i, j, ty, e1, e2, rfl⟩, hq⟩ := h
    refine ⟨_, pss_one (ps_ret (pe_and (pe_callB call_isi (by rfl) B.isi (by decide +kernel) (pa_cons (pv 0) (pa_cons (pe_bltn (v := .ty "int") (by rfl) B.int (by decide +kernel) rfl) pa_nil)))
      (pe_one (pe_not (pe_callB call_isi (by rfl) B.isi (by decide +kernel) (pa_cons (pv 0) (pa_cons (pe_bltn (v := .ty "bool") (by rfl) B.bool (by decide +kernel) rfl) pa_nil))))))), ?_⟩
    refine ⟨_, rfl, _, _, _, _, _, rfl, .ty _, ty, kit_ty e1, _, rfl, ?_⟩
    cases i with
    | false => exact iteF hq
    | true =>
      refine iteT ?_
      exact ⟨_, rfl, _, _, _, _, _, rfl, .ty _, ty, kit_ty (e2 rfl), _, rfl, hq⟩
abbrev sPlace : Stmt := top 50
theorem scPlace : FnScope ["run", "k"] ["run", "k"] (defScope sPlace) := ⟨rfl, rfl, rfl, by decide +kernel, rfl, by decide +kernel, by decide +kernel⟩
theorem ok_place {f fW : Addr} {fd fdW : FuncData} (F : Fun K "place_of" "place_of" sPlace f fd) (B : Blt mg) (X : RTxt K CR) (G : FnOk P w K mg base CX0 1 fW fdW ["given"] (spWhole K)) (mG : mg "is_whole" = some (.ref fW)) (kG : PySem.W.keepIn K (.ref fW) = true) (bG : Binds K fdW ["given"] [])
    (Z : Err1 P w K mg base "NoWork" "number" CW) : FnOk P w K mg base (L2.CX P w) 3 f fd ["run", "k"] (spPlace K CR CT CP CW) := by
  obtain ⟨fI, fdI, z, g⟩ := Z.ex
  refine F.okX scPlace (fun vs H Q E h => ?_) (fun cdv A outer s H vs Q E hr h => ?_)
  · obtain ⟨r, R, x, b, rfl, _⟩ := h
    rfl
  · obtain ⟨r, R, x, b, rfl, hR, hW, k1, k2⟩ := h
    have hr1 : Room 1 _ := hr.mono (by omega)
    have hr2 : Room 2 _ := hr.mono (by omega)
    refine ⟨_, pss_cons (ps_if (PW.pt (pw_or (pt_not (pt_val (pe_call G hr1 rfl mG kG bG .nil pass0 (pa_cons (pv 1) pa_nil)))) (pw_or1 (pt_not (pt_chain op_le op_lt pe_int (pv 1) (pe_callB call_len_seq (by rfl) B.len PySem.boot_len (pa_cons (pe_fld (pv 0) rfl) pa_nil)))))))
        (pss_one (ps_raise rfl (takes_of (E := E) rfl rfl rfl rfl) (pmk_err z g hr2 Z.m (pa_cons (pv 1) pa_nil)))) pss_nil)
      (pss_one (ps_ret (pe_ix ix_list (pe_fld (pv 0) rfl) (pv 1) (fun _ _ => rfl)))), ?_⟩
    refine ⟨_, rfl, x, b, rfl, hW, b, rfl, ?_⟩
    cases b with
    | false => exact iteT (iteT ⟨_, rfl, _, rfl, k1 rfl⟩)
    | true =>
      obtain ⟨k, rfl, q1, q2⟩ := k2 rfl
      refine iteF ?_
      refine ⟨_, rfl, _, _, rfl, rfl, _, rfl, ?_⟩
      by_cases c1 : 0 ≤ k
      · rw [decide_eq_true c1]
        refine iteT ?_
        refine ⟨_, rfl, r, CR, R.dx, _, _, rfl, hR.ob, X.cl, X.places, rF_get2, R.pl, _, rfl, .inl (SqL.of hR.p), _, _, rfl, rfl, _, rfl, ?_⟩
        rw [List.length_map]
        by_cases c2 : k < (R.places.length : Int)
        · rw [decide_eq_true c2]
          refine iteF ?_
          obtain ⟨n, rfl⟩ := Int.eq_ofNat_of_zero_le c1
          have hn : n < R.places.length := by omega
          exact ⟨_, rfl, r, CR, R.dx, _, _, rfl, hR.ob, X.cl, X.places, rF_get2, _, rfl, R.pl, _, _, _, rfl, rfl, SqL.of hR.p, atI_nat (j := n) (by rw [List.getElem?_map, List.getElem?_eq_getElem hn]; rfl), q1 n _ rfl (List.getElem?_eq_getElem hn)⟩
        · rw [decide_eq_false c2]
          exact iteT ⟨_, rfl, _, rfl, q2 (fun z => c2 z.2)⟩
      · rw [decide_eq_false c1]
        exact ⟨_, rfl, iteT ⟨_, rfl, _, rfl, q2 (fun z => c1 z.1)⟩⟩
end
end TW
namespace TW
open PySem PySem.Spec PyProof.Rows L2
abbrev sCanGo : Stmt := top 51
/-- whether a work that stands so can go -/
def CanGo (K : PySem.W.Frag) (Rel : Hp → V → V → Bool → Prop) (H : Hp) (T : TS) (pend : V) (b : Bool) : Prop := (pend = .non ∧ b = false) ∨ ∃ wt word rest, pend = .ref wt ∧ SqT K H wt (.str word :: rest) ∧ Needs K Rel H T word rest b
def spCanGo (K : PySem.W.Frag) (CR CT CP : Addr) (Rel : Hp → V → V → Bool → Prop) : Sp := fun vs H Q _ => ∃ (r : Addr) (R : RS) (y : PS) (b : Bool), vs = [.ref r, .ref y.p] ∧ RunAt K CR CT CP H r R ∧ PlaceAt K CP H y ∧ CanGo K Rel H R.T y.pend b ∧ ∀ H', Same H H' → Q (.bl b) H'
/-- what a table holds for a name -/
def spCellOf (K : PySem.W.Frag) (CR CT CP CN : Addr) (tab : TS → List (Key × V)) : Sp := fun vs H Q E => ∃ (r : Addr) (R : RS) (y : V) (l : List Str) (b : Bool), vs = [.ref r, y] ∧ RunAt K CR CT CP H r R ∧ (tab R.T).map (·.1) = l.map Sum.inr ∧ Among K H l y b ∧ (b = false → EX E CN "name" y H) ∧
  (b = true → ∃ nm v, y = .str nm ∧ valV (tab R.T) (Sum.inr nm) = some v ∧ Q v H)
def spOfPlace (K : PySem.W.Frag) (CR CT CP CW : Addr) (f : PS → V) : Sp := fun vs H Q E => ∃ (r : Addr) (R : RS) (x : V) (b : Bool), vs = [.ref r, x] ∧ RunAt K CR CT CP H r R ∧ Whl K H x b ∧ (b = false → EX E CW "number" x H) ∧
  (b = true → ∃ k : Int, x = .int k ∧ (∀ (n : Nat) y, k = (n : Int) → R.places[n]? = some y → Q (f y) H) ∧ (¬ (0 ≤ k ∧ k < (R.places.length : Int)) → EX E CW "number" x H))
section
variable {P : Program} {w : World} {K : PySem.W.Frag} {mg : Str → Option Value} {base : Heap} {CR CT CP CW : Addr} {n : Nat}
theorem scCanGo : FnScope ["run", "place"] ["run", "place"] (defScope sCanGo) := ⟨rfl, rfl, rfl, by decide +kernel, rfl, by decide +kernel, by decide +kernel⟩
theorem ok_canGo {f fN : Addr} {fd fdN : FuncData} {Rel : Hp → V → V → Bool → Prop} (F : Fun K "can_go" "can_go" sCanGo f fd) (X : RTxt K CR) (XP : PTxt K CP) (G : FnOk P w K mg base CX0 (n + 2) fN fdN ["things", "wish"] (spNeed K CT Rel)) (mN : mg "need_not_wait" = some (.ref fN)) (kN : PySem.W.keepIn K (.ref fN) = true) (bN : Binds K fdN ["things", "wish"] []) :
    FnOk P w K mg base CX0 (n + 3) f fd ["run", "place"] (spCanGo K CR CT CP Rel) := by
  refine F.ok scCanGo (fun vs H Q E h => ?_) (fun cdv A outer s H vs Q E hr h => ?_)
  · obtain ⟨r, R, y, b, rfl, _⟩ := h
    rfl
  · obtain ⟨r, R, y, b, rfl, hR, hP, hC, hq⟩ := h
    refine ⟨_, pss_one (ps_ret (pe_and (pe_cmpR op_notN (pe_fld (pv 1) rfl) pe_non (nomark _)) (pe_one (pe_call G hr rfl mN kN bN .nil pass0 (pa_cons (pe_fld (pv 0) rfl) (pa_cons (pe_fld (pv 1) rfl) pa_nil)))))), ?_⟩
    rcases hC with ⟨e, rfl⟩ | ⟨wt, word, rest, e, hW, hN⟩
    · refine ⟨_, rfl, y.p, CP, y.dp, _, _, rfl, hP.ob, XP.cl, XP.pending, pF_get1, rfl, _, rfl, ?_⟩
      rw [e]
      exact iteF (hq _ (Same.refl _))
    · refine ⟨_, rfl, y.p, CP, y.dp, _, _, rfl, hP.ob, XP.cl, XP.pending, pF_get1, rfl, _, rfl, ?_⟩
      rw [e]
      refine iteT ?_
      refine ⟨_, rfl, r, CR, R.dx, _, _, rfl, hR.ob, X.cl, X.things, rF_get1, _, rfl, y.p, CP, y.dp, _, _, rfl, hP.ob, XP.cl, XP.pending, pF_get1, ?_⟩
      exact ⟨R.th, wt, R.T, word, rest, b, by rw [e]; rfl, hR.t, hW, hN, hq⟩
abbrev s_wish : Stmt := inClass (top 53) 1
theorem sc_wish : FnScope ["self", "k"] ["self", "k"] (defScope s_wish) := ⟨rfl, rfl, rfl, by decide +kernel, rfl, by decide +kernel, by decide +kernel⟩
theorem ok_wish {f fP : Addr} {fd fdP : FuncData} (F : Fun K "wish" "Run.wish" s_wish f fd) (XP : PTxt K CP) (G : FnOk P w K mg base (L2.CX P w) 3 fP fdP ["run", "k"] (spPlace K CR CT CP CW)) (mP : mg "place_of" = some (.ref fP)) (kP : PySem.W.keepIn K (.ref fP) = true) (bP : Binds K fdP ["run", "k"] []) :
    FnOk P w K mg base (L2.CX P w) 4 f fd ["self", "k"] (spOfPlace K CR CT CP CW PS.pend) := by
  refine F.okX sc_wish (fun vs H Q E h => ?_) (fun cdv A outer s H vs Q E hr h => ?_)
  · obtain ⟨r, R, x, b, rfl, _⟩ := h
    rfl
  · obtain ⟨r, R, x, b, rfl, hR, hW, k1, k2⟩ := h
    refine ⟨_, pss_one (ps_ret (pe_fld (pe_callS G hr rfl mP kP bP (fun σ => passAt (takes_of (E := E) rfl rfl rfl rfl) σ) (pa_cons (pv 0) (pa_cons (pv 1) pa_nil))) rfl)), ?_⟩
    refine ⟨_, rfl, _, rfl, r, R, x, b, rfl, hR, hW, k1, fun hb => ?_⟩
    obtain ⟨k, e, q1, q2⟩ := k2 hb
    refine ⟨k, e, fun n y en ey => ?_, q2⟩
    have hP := hR.e y (List.mem_of_getElem? ey)
    exact ⟨y.p, CP, y.dp, _, _, rfl, hP.ob, XP.cl, XP.pending, pF_get1, q1 n y en ey⟩
abbrev s_said : Stmt := inClass (top 53) 10
theorem sc_said : FnScope ["self", "k"] ["self", "k"] (defScope s_said) := ⟨rfl, rfl, rfl, by decide +kernel, rfl, by decide +kernel, by decide +kernel⟩
theorem ok_said {f fP : Addr} {fd fdP : FuncData} (F : Fun K "said" "Run.said" s_said f fd) (XP : PTxt K CP) (G : FnOk P w K mg base (L2.CX P w) 3 fP fdP ["run", "k"] (spPlace K CR CT CP CW)) (mP : mg "place_of" = some (.ref fP)) (kP : PySem.W.keepIn K (.ref fP) = true) (bP : Binds K fdP ["run", "k"] []) :
    FnOk P w K mg base (L2.CX P w) 4 f fd ["self", "k"] (spOfPlace K CR CT CP CW (fun y => .ref y.tw)) := by
  refine F.okX sc_said (fun vs H Q E h => ?_) (fun cdv A outer s H vs Q E hr h => ?_)
  · obtain ⟨r, R, x, b, rfl, _⟩ := h
    rfl
  · obtain ⟨r, R, x, b, rfl, hR, hW, k1, k2⟩ := h
    refine ⟨_, pss_one (ps_ret (pe_fld (pe_callS G hr rfl mP kP bP (fun σ => passAt (takes_of (E := E) rfl rfl rfl rfl) σ) (pa_cons (pv 0) (pa_cons (pv 1) pa_nil))) rfl)), ?_⟩
    refine ⟨_, rfl, _, rfl, r, R, x, b, rfl, hR, hW, k1, fun hb => ?_⟩
    obtain ⟨k, e, q1, q2⟩ := k2 hb
    refine ⟨k, e, fun n y en ey => ?_, q2⟩
    have hP := hR.e y (List.mem_of_getElem? ey)
    exact ⟨y.p, CP, y.dp, _, _, rfl, hP.ob, XP.cl, XP.words, pF_get3, q1 n y en ey⟩
abbrev s_cell : Stmt := inClass (top 53) 7
theorem sc_cell : FnScope ["self", "name"] ["self", "name"] (defScope s_cell) := ⟨rfl, rfl, rfl, by decide +kernel, rfl, by decide +kernel, by decide +kernel⟩
theorem ok_cell {f fT CN : Addr} {fd fdT : FuncData} (F : Fun K "cell" "Run.cell" s_cell f fd) (X : RTxt K CR) (XT : TTxt K CT) (G : FnOk P w K mg base (L2.CX P w) 3 fT fdT ["names", "name"] (spCkT K CN)) (mT : mg "check_thing" = some (.ref fT)) (kT : PySem.W.keepIn K (.ref fT) = true) (bT : Binds K fdT ["names", "name"] []) :
    FnOk P w K mg base (L2.CX P w) 4 f fd ["self", "name"] (spCellOf K CR CT CP CN (fun T => T.cells)) := by
  refine F.okX sc_cell (fun vs H Q E h => ?_) (fun cdv A outer s H vs Q E hr h => ?_)
  · obtain ⟨r, R, y, l, b, rfl, _⟩ := h
    rfl
  · obtain ⟨r, R, y, l, b, rfl, hR, hl, hA, k1, k2⟩ := h
    have hu := hu_of hr
    refine ⟨_, pss_cons (ps_expr (pe_callS G hr rfl mT kT bT (fun σ => passAt (takes_of (E := E) rfl rfl rfl rfl) σ) (pa_cons (pe_fld (pe_fld (pv 0) rfl) rfl) (pa_cons (pv 1) pa_nil))))
      (pss_one (ps_ret (pe_dget hu (pe_fld (pe_fld (pv 0) rfl) rfl) (pv 1) (fun _ _ => rfl)))), ?_⟩
    refine ⟨_, rfl, r, CR, R.dx, _, _, rfl, hR.ob, X.cl, X.things, rF_get1, R.th, CT, R.T.dx, _, _, rfl, hR.t.ob, XT.cl, XT.cells, tF_get0, _, rfl, .ref R.T.cd, y, l, b, rfl, .inl ⟨R.T.cd, R.T.cells, rfl, .inl hR.t.c, hl⟩, hA, fun hb => ?_, k1⟩
    obtain ⟨nm, v, rfl, e, hq⟩ := k2 hb
    exact ⟨_, rfl, r, CR, R.dx, _, _, rfl, hR.ob, X.cl, X.things, rF_get1, R.th, CT, R.T.dx, _, _, rfl, hR.t.ob, XT.cl, XT.cells, tF_get0, _, rfl, R.T.cd, v, rfl, e ▸ DGet.k (k := Sum.inr nm) hR.t.c, hq⟩
abbrev s_belt : Stmt := inClass (top 53) 9
theorem sc_belt : FnScope ["self", "name"] ["self", "name"] (defScope s_belt) := ⟨rfl, rfl, rfl, by decide +kernel, rfl, by decide +kernel, by decide +kernel⟩
theorem ok_belt {f fT CN : Addr} {fd fdT : FuncData} (F : Fun K "belt" "Run.belt" s_belt f fd) (X : RTxt K CR) (XT : TTxt K CT) (G : FnOk P w K mg base (L2.CX P w) 3 fT fdT ["names", "name"] (spCkT K CN)) (mT : mg "check_thing" = some (.ref fT)) (kT : PySem.W.keepIn K (.ref fT) = true) (bT : Binds K fdT ["names", "name"] []) :
    FnOk P w K mg base (L2.CX P w) 4 f fd ["self", "name"] (spCellOf K CR CT CP CN (fun T => T.rows)) := by
  refine F.okX sc_belt (fun vs H Q E h => ?_) (fun cdv A outer s H vs Q E hr h => ?_)
  · obtain ⟨r, R, y, l, b, rfl, _⟩ := h
    rfl
  · obtain ⟨r, R, y, l, b, rfl, hR, hl, hA, k1, k2⟩ := h
    have hu := hu_of hr
    refine ⟨_, pss_cons (ps_expr (pe_callS G hr rfl mT kT bT (fun σ => passAt (takes_of (E := E) rfl rfl rfl rfl) σ) (pa_cons (pe_fld (pe_fld (pv 0) rfl) rfl) (pa_cons (pv 1) pa_nil))))
      (pss_one (ps_ret (pe_dget hu (pe_fld (pe_fld (pv 0) rfl) rfl) (pv 1) (fun _ _ => rfl)))), ?_⟩
    refine ⟨_, rfl, r, CR, R.dx, _, _, rfl, hR.ob, X.cl, X.things, rF_get1, R.th, CT, R.T.dx, _, _, rfl, hR.t.ob, XT.cl, XT.rows, tF_get2, _, rfl, .ref R.T.rd, y, l, b, rfl, .inl ⟨R.T.rd, R.T.rows, rfl, .inl hR.t.r, hl⟩, hA, fun hb => ?_, k1⟩
    obtain ⟨nm, v, rfl, e, hq⟩ := k2 hb
    exact ⟨_, rfl, r, CR, R.dx, _, _, rfl, hR.ob, X.cl, X.things, rF_get1, R.th, CT, R.T.dx, _, _, rfl, hR.t.ob, XT.cl, XT.rows, tF_get2, _, rfl, R.T.rd, v, rfl, e ▸ DGet.k (k := Sum.inr nm) hR.t.r, hq⟩
end
end TW
namespace L2
open PySem PySem.Spec PyProof.Rows
theorem pg_tupC {X : Cx} {s : Shared} {H : Hp} {scope : Scope} {env : Env} {fp : List Addr} {es : List Expr} {k n : Nat} {t : TGs} {pos : Pos} (hc : (X.blk s H scope env fp).calm = true) (h : PGs (X.blk s H scope env fp) es t)
    (hn : (assignEach es (X.blk s H scope env fp).env).length = n := by rfl) (hst : (assignEach es (X.blk s H scope env fp).env).findIdx? (·.1) = none := by rfl) : PG (X.blk s H scope env fp) (.Tuple es k pos) (gTup X.K n t) :=
  pg_tup (X := X.blk s H scope env fp) hc h hn hst
end L2
namespace TW
open PySem PySem.Spec PyProof.Rows L2
abbrev s_can : Stmt := inClass (top 53) 2
/-- the numbers below i that are told True -/
def upTo (f : Nat → Bool) : Nat → List V
  | 0 => []
  | i + 1 => if f i = true then upTo f i ++ [.int (i : Nat)] else upTo f i
theorem upTo_len (f : Nat → Bool) (i : Nat) : (upTo f i).length ≤ i := by
  induction i with
  | zero => exact Nat.le_refl _
  | succ i ih =>
    unfold upTo
    split
    · rw [List.length_append]
      exact Nat.succ_le_succ ih
    · exact Nat.le_succ_of_le ih
/-- a relation of values that new objects don't change -/
def Keeps (Rel : Hp → V → V → Bool → Prop) : Prop := ∀ H H' x y b, Same H H' → Rel H x y b → Rel H' x y b
section
variable {K : PySem.W.Frag} {H H' : Hp} {Rel : Hp → V → V → Bool → Prop}
theorem Roomy.same {T : TS} {s : Str} {b : Bool} (e : Same H H') (h : Roomy K H T s b) : Roomy K H' T s b := by
  obtain ⟨sz, a, row, e1, e2, q, k⟩ := h
  exact ⟨sz, a, row, e1, e2, seqT_same e q, k⟩
theorem Needs.same (k : Keeps Rel) {T : TS} {word : Str} {rest : List V} {b : Bool} (e : Same H H') (h : Needs K Rel H T word rest b) : Needs K Rel H' T word rest b := by
  obtain ⟨k1, k2, k3, k4, k5⟩ := h
  refine ⟨fun c => ?_, k2, fun c => ?_, fun c => ?_, k5⟩
  · obtain ⟨s, x, l, v, e1, e2, e3⟩ := k1 c
    exact ⟨s, x, l, v, e1, e2, k _ _ _ _ _ e e3⟩
  · obtain ⟨s, l, e1, e2⟩ := k3 c
    exact ⟨s, l, e1, e2.same e⟩
  · obtain ⟨s, l, a, row, e1, e2, e3, e4⟩ := k4 c
    exact ⟨s, l, a, row, e1, e2, seqT_same e e3, e4⟩
theorem CanGo.same (k : Keeps Rel) {T : TS} {pend : V} {b : Bool} (e : Same H H') (h : CanGo K Rel H T pend b) : CanGo K Rel H' T pend b := by
  rcases h with h | ⟨wt, word, rest, e1, e2, e3⟩
  · exact .inl h
  · exact .inr ⟨wt, word, rest, e1, seqT_same e e2, e3.same k e⟩
end
def spCan (K : PySem.W.Frag) (CR CT CP : Addr) (Rel : Hp → V → V → Bool → Prop) : Sp := fun vs H Q _ => ∃ (r : Addr) (R : RS) (f : Nat → Bool), vs = [.ref r] ∧ RunAt K CR CT CP H r R ∧ R.places.length ≤ 1000 ∧ (∀ (i : Nat) y, R.places[i]? = some y → CanGo K Rel H R.T y.pend (f i)) ∧
  ∀ (D : Addr) (H' : Hp), H D = none → Same H H' → H' D = some (.lst (upTo f R.places.length)) → Q (.ref D) H'
section
variable {P : Program} {w : World} {K : PySem.W.Frag} {mg : Str → Option Value} {base : Heap} {CR CT CP CW : Addr} {n : Nat}
theorem sc_can : FnScope ["self", "k", "place"] ["self"] (defScope s_can) := ⟨rfl, rfl, rfl, by decide +kernel, rfl, by decide +kernel, by decide +kernel⟩
theorem ok_can {f fG : Addr} {fd fdG : FuncData} {Rel : Hp → V → V → Bool → Prop} (hk : Keeps Rel) (F : Fun K "can" "Run.can" s_can f fd) (B : Blt mg) (X : RTxt K CR) (G : FnOk P w K mg base CX0 (n + 3) fG fdG ["run", "place"] (spCanGo K CR CT CP Rel)) (mG : mg "can_go" = some (.ref fG)) (kG : PySem.W.keepIn K (.ref fG) = true) (bG : Binds K fdG ["run", "place"] []) :
    FnOk P w K mg base CX0 (n + 4) f fd ["self"] (spCan K CR CT CP Rel) := by
  refine F.ok sc_can (fun vs H Q E h => ?_) (fun cdv A outer s H vs Q E hr h => ?_)
  · obtain ⟨r, R, g, rfl, _⟩ := h
    rfl
  · obtain ⟨r, R, g, rfl, hR, few, hC, hq⟩ := h
    refine ⟨_, pss_one (ps_ret (pe_lc (own := [("k", 1), ("place", 2)]) rfl sc_can.nd (pi_enum (by rfl) B.enumerate (pa_cons (pe_fld (pv 0) rfl) pa_nil)) (blkOk_by (N := ["self", "k", "place"]) (sc := defScope s_can) (by decide +kernel))
      (fun _ _ _ _ _ => pg_tupC (n := 2) rfl (pgs_cons (pg_name (i := 1) sc_can.nd rfl (Or.inl rfl)) (pgs_cons (pg_name (i := 2) sc_can.nd rfl (Or.inl rfl)) pgs_nil)))
      (fun _ _ _ _ _ => pts_one (pt_val (pe_call G hr rfl mG kG bG .nil pass0 (pa_cons (pv 0) (pa_cons (pv 2) pa_nil)))))
      (fun _ _ _ _ _ => pv 1))), ?_⟩
    refine ⟨_, rfl, r, CR, R.dx, _, _, rfl, hR.ob, X.cl, X.places, rF_get2, R.pl, _, rfl, SqL.of hR.p, fun D hD => ?_⟩
    refine lc_it (walk_enum (K := K) (a := R.pl) (xs := R.places.map fun x => V.ref x.p)) (fun i H' => Same H H' ∧ H' D = some (.lst (upTo g i))) ⟨same_new hD, upd_same⟩ (fun i H' _ p => SqL.of (p.1 _ _ hR.p)) (fun i x H1 H' hi p y => ?_) (fun H1 p => ?_)
    · obtain ⟨T, x1, x2, rfl, hT, rfl, e1, e2⟩ := y
      obtain rfl := (Option.some.inj e1).symm
      rw [List.length_map] at hi
      have ey : R.places[i]? = some R.places[i] := List.getElem?_eq_getElem hi
      dsimp only at e2
      rw [List.getElem?_map, ey] at e2
      obtain rfl := (Option.some.inj e2).symm
      have sT := same_new (o := HO.tup [V.int (i : Nat), V.ref R.places[i].p]) hT
      have sm := p.1.trans sT
      refine ⟨T, [.int (i : Nat), .ref R.places[i].p], rfl, SqT.of upd_same, rfl, _, _, rfl, _, _, rfl, rfl, rfl, ?_⟩
      refine ⟨_, rfl, _, rfl, r, R, R.places[i], g i, rfl, hR.same sm, (hR.e _ (List.mem_of_getElem? ey)).same sm, (hC i _ ey).same hk sm, fun H2 s2 => ⟨_, rfl, ?_⟩⟩
      have s3 := sm.trans s2
      have d2 := s2 _ _ (sT _ _ p.2)
      cases e : g i with
      | true =>
        refine iteT ?_
        refine ⟨_, rfl, upTo g i, d2, ?_, fun b o z => ?_, ?_⟩
        · exact Nat.lt_of_lt_of_le (Nat.lt_succ_of_le (Nat.le_trans (upTo_len g i) (Nat.le_trans (Nat.le_of_lt hi) few))) (small_sz (by decide))
        · rw [upd_ne (ne_of_none z hD)]
          exact s3 b o z
        · rw [upd_same]
          conv => rhs; unfold upTo
          rw [e]
          rfl
      | false =>
        refine iteF ⟨s3, ?_⟩
        conv => rhs; unfold upTo
        rw [e]
        exact d2
    · have z := p.2
      rw [List.length_map] at z
      exact hq D H1 hD p.1 z
end
end TW
namespace TW
open PySem PySem.Spec PyProof.Rows L2
theorem ixN_at {n j : Nat} (hj : j < n) : ixN n (j : Int) = some j := by
  unfold ixN
  simp [hj]
abbrev s_go : Stmt := inClass (top 53) 3
/-- the heap behind a go, but for the list of the steps done -/
def goHp (CR r : Addr) (R : RS) (n : Nat) (t2 plv : Addr) (H3 : Hp) : Hp := upd (upd H3 r (.ins CR R.dx (rF (.ref R.sh) (.ref t2) (.ref R.pl) (.ref R.dn)))) R.pl (.lst ((R.places.map fun x => V.ref x.p).set n (.ref plv)))
def GoFin (K : PySem.W.Frag) (CR CP r : Addr) (R : RS) (n : Nat) (y : PS) (t2 : Addr) (ans : V) (Q : VK) : VK := fun pl H3 => ∃ plv, pl = .ref plv ∧ H3 r = some (.ins CR R.dx (rF (.ref R.sh) (.ref R.th) (.ref R.pl) (.ref R.dn))) ∧ H3 R.pl = some (.lst (R.places.map fun x => V.ref x.p)) ∧ H3 R.dn = some (.lst R.done) ∧ R.dn ≠ R.pl ∧ R.done.length < sizeLine ∧
  H3 y.p = some (.ins CP y.dp (pF (.ref y.an) y.pend y.fin (.ref y.tw))) ∧ y.p ≠ r ∧
  ∀ t, goHp CR r R n t2 plv H3 t = none → Q ans (upd (upd (goHp CR r R n t2 plv H3) t (.tup [.int (n : Int), y.pend, ans])) R.dn (.lst (R.done ++ [.ref t])))
def spGo (P : Program) (w : World) (K : PySem.W.Frag) (CR CT CP CW CC pS : Addr) (S : Addr → Option Sp) (Rel : Hp → V → V → Bool → Prop) (spC : Sp) : Sp := fun vs H Q E => ∃ (r : Addr) (R : RS) (x : V) (b : Bool), vs = [.ref r, x] ∧ RunAt K CR CT CP H r R ∧ Whl K H x b ∧ (b = false → EX E CW "number" x H) ∧
  (b = true → ∃ k : Int, x = .int k ∧ (¬ (0 ≤ k ∧ k < (R.places.length : Int)) → EX E CW "number" x H) ∧ ∀ (n : Nat) y, k = (n : Int) → R.places[n]? = some y → ∃ c, CanGo K Rel H R.T y.pend c ∧ ∀ H1, Same H H1 → (c = false → EX E CC "number" x H1) ∧
    (c = true → ∀ (t2 dx cd hd rd : Addr) (G : Hp), H1 t2 = none → H1 dx = none → H1 cd = none → H1 hd = none → H1 rd = none → Same H1 G → ThingsAt K CT G t2 { R.T with dx := dx, cd := cd, hd := hd, rd := rd } →
      spDoStep K w pS S [.ref t2, x, y.pend] G (fun ans H2 => H2 r = some (.ins CR R.dx (rF (.ref R.sh) (.ref R.th) (.ref R.pl) (.ref R.dn))) ∧ PlaceAt K CP H2 y ∧ y.ans.length + 1 ≤ 100000 ∧
        ∀ an2 H3, Same H2 H3 → SqT K H3 an2 (y.ans ++ [ans]) → spC [.ref R.sh, x, .ref an2] H3 (GoFin K CR CP r R n y t2 ans Q) E) E0))
section
variable {P : Program} {w : World} {K : PySem.W.Frag} {mg : Str → Option Value} {base : Heap} {CR CT CP CW CC pS : Addr} {N : Nat}
def spUp0 (s1 : Sp) : Sp := fun vs H Q _ => ∃ (Q0 : VK) (E0 : XK), s1 vs H Q0 E0 ∧ ∀ v H', Q0 v H' → Q v H'
theorem fnOk_up0 {k : Nat} {f : Addr} {fd : FuncData} {ps : List Str} {sp : Sp} (F : FnOk P w K mg base CX0 k f fd ps sp) : FnOk P w K mg base CX0 k f fd ps (spUp0 sp) := by
  refine ⟨fun vs H Q E h => ?_, fun A outer s H args us vs Q E hr he hb hv hs => ?_⟩
  · obtain ⟨Q0, E0, h, _⟩ := h
    exact F.len _ _ _ _ h
  · obtain ⟨Q0, E0, h, hq⟩ := hs
    refine codeAny_mono (F.run A outer s H args us vs Q0 E0 hr he hb hv h) fun r s' c => ?_
    cases r with
    | error e => exact False.elim c
    | ok fl =>
      cases fl with
      | ret u =>
        obtain ⟨v, H', e1, e2, e3, e4, e5, e6⟩ := c
        exact ⟨v, H', e1, e2, e3, e4, e5, hq _ _ e6⟩
      | next => exact False.elim c
      | brk => exact False.elim c
      | cont => exact False.elim c
theorem fnOk_up {k : Nat} {f : Addr} {fd : FuncData} {ps : List Str} {sp : Sp} (F : FnOk P w K mg base (L2.CX P w) k f fd ps sp) : FnOk P w K mg base (L2.CX P w) k f fd ps (spUp sp) := by
  refine ⟨fun vs H Q E h => ?_, fun A outer s H args us vs Q E hr he hb hv hs => ?_⟩
  · obtain ⟨Q0, E0, h, _⟩ := h
    exact F.len _ _ _ _ h
  · obtain ⟨Q0, E0, h, h2, h3⟩ := hs
    exact codeAny_mono (F.run A outer s H args us vs Q0 E0 hr he hb hv h) fun r s' c => cr_up h2 h3 c
theorem sc_go : FnScope ["self", "k", "place", "things", "answer", "following"] ["self", "k"] (defScope s_go) := ⟨rfl, rfl, rfl, by decide +kernel, rfl, by decide +kernel, by decide +kernel⟩
theorem ok_go {f fP fG fA fD fC : Addr} {fd fdP fdG fdA fdD fdC : FuncData} {Rel : Hp → V → V → Bool → Prop} {S : Addr → Option Sp} {spC : Sp} (F : Fun K "go" "Run.go" s_go f fd) (X : RTxt K CR) (XP : PTxt K CP) (hN : 2 ≤ N)
    (GP : FnOk P w K mg base (L2.CX P w) N fP fdP ["run", "k"] (spPlace K CR CT CP CW)) (mP : mg "place_of" = some (.ref fP)) (kP : PySem.W.keepIn K (.ref fP) = true) (bP : Binds K fdP ["run", "k"] [])
    (GG : FnOk P w K mg base CX0 N fG fdG ["run", "place"] (spCanGo K CR CT CP Rel)) (mG : mg "can_go" = some (.ref fG)) (kG : PySem.W.keepIn K (.ref fG) = true) (bG : Binds K fdG ["run", "place"] [])
    (Z : Err1 P w K mg base "CanNot" "number" CC)
    (GA : FnOk P w K mg base CX0 N fA fdA ["things"] (spAgain K CT)) (mA : mg "things_again" = some (.ref fA)) (kA : PySem.W.keepIn K (.ref fA) = true) (bA : Binds K fdA ["things"] [])
    (GD : FnOk P w K mg base CX0 N fD fdD ["things", "k", "wish"] (spDoStep K w pS S)) (mD : mg "do_step" = some (.ref fD)) (kD : PySem.W.keepIn K (.ref fD) = true) (bD : Binds K fdD ["things", "k", "wish"] [])
    (GC : FnOk P w K mg base (L2.CX P w) N fC fdC ["shop", "k", "answers"] spC) (mC : mg "come" = some (.ref fC)) (kC : PySem.W.keepIn K (.ref fC) = true) (bC : Binds K fdC ["shop", "k", "answers"] []) :
    FnOk P w K mg base (L2.CX P w) (N + 1) f fd ["self", "k"] (spGo P w K CR CT CP CW CC pS S Rel spC) := by
  obtain ⟨fI, fdI, z, g⟩ := Z.ex
  refine F.okX sc_go (fun vs H Q E h => ?_) (fun cdv A outer s H vs Q E hr h => ?_)
  · obtain ⟨r, R, x, b, rfl, _⟩ := h
    rfl
  · obtain ⟨r, R, x, b, rfl, hR, hW, k1, k2⟩ := h
    have hr2 : Room 2 _ := hr.mono hN
    refine ⟨_, pss_cons (ps_set (i := 2) sc_go.nd rfl (.inl rfl) (pe_callS GP hr rfl mP kP bP (fun σ => passAt (takes_of (E := E) rfl rfl rfl rfl) σ) (pa_cons (pv 0) (pa_cons (pv 1) pa_nil))))
      (pss_cons (ps_if (pt_not (pt_val (pe_call GG hr rfl mG kG bG .nil pass0 (pa_cons (pv 0) (pa_cons (pv 2) pa_nil))))) (pss_one (ps_raise rfl (takes_of (E := E) rfl rfl rfl rfl) (pmk_err z g hr2 Z.m (pa_cons (pv 1) pa_nil)))) pss_nil)
      (pss_cons (ps_set (i := 3) sc_go.nd rfl (.inl rfl) (pe_call GA hr rfl mA kA bA .nil pass0 (pa_cons (pe_fld (pv 0) rfl) pa_nil)))
      (pss_cons (ps_set (i := 4) sc_go.nd rfl (.inl rfl) (pe_call (fnOk_up0 GD) hr rfl mD kD bD .nil pass0 (pa_cons (pv 3) (pa_cons (pv 1) (pa_cons (pe_fld (pv 2) rfl) pa_nil)))))
      (pss_cons (ps_set (i := 5) sc_go.nd rfl (.inl rfl) (pe_callS (fnOk_up GC) hr rfl mC kC bC (fun σ => passAt (takes_of (E := E) rfl rfl rfl rfl) σ) (pa_cons (pe_fld (pv 0) rfl) (pa_cons (pv 1) (pa_cons (pe_op op_catT2 (pe_fld (pv 2) rfl) (pe_tup (pa_cons (pv 4) pa_nil))) pa_nil)))))
      (pss_cons (ps_fld (pv 0) (pv 3) rfl)
      (pss_cons (ps_asg (pv 5) (pg_sub (pe_fld (pv 0) rfl) (pv 1) set_list))
      (pss_cons (ps_expr (pe_bm PySem.F.plainAttrs_list PySem.F.slot_list_append PySem.F.type_list_append mt_append (pe_fld (pv 0) rfl) (pa_cons (pe_tup (pa_cons (pv 1) (pa_cons (pe_fld (pv 2) rfl) (pa_cons (pv 4) pa_nil)))) pa_nil)))
      (pss_one (ps_ret (pv 4)))))))))), ?_⟩
    refine ⟨_, rfl, _, rfl, r, R, x, b, rfl, hR, hW, k1, fun hb => ?_⟩
    obtain ⟨k, rfl, q2, q1⟩ := k2 hb
    refine ⟨k, rfl, fun n y en ey => ?_, q2⟩
    subst en
    obtain ⟨c, hC, hgo⟩ := q1 n y rfl ey
    have hP := hR.e y (List.mem_of_getElem? ey)
    refine ⟨_, rfl, _, rfl, r, R, y, c, rfl, hR, hP, hC, fun H1 s1 => ⟨_, rfl, ?_⟩⟩
    cases c with
    | false => exact iteT ⟨_, rfl, _, rfl, (hgo H1 s1).1 rfl⟩
    | true =>
      refine iteF ?_
      have hR1 := hR.same s1
      refine ⟨_, rfl, r, CR, R.dx, _, _, rfl, hR1.ob, X.cl, X.things, rF_get1, R.th, R.T, rfl, hR1.t, fun t2 dx cd hd rd G n1 n2 n3 n4 n5 s2 hT => ?_⟩
      have hg := (hgo H1 s1).2 rfl t2 dx cd hd rd G n1 n2 n3 n4 n5 s2 hT
      have hP2 := (hP.same s1).same s2
      refine ⟨_, rfl, _, rfl, _, rfl, y.p, CP, y.dp, _, _, rfl, hP2.ob, XP.cl, XP.pending, pF_get1, ?_⟩
      refine ⟨_, _, hg, fun ans H2 q => ?_⟩
      obtain ⟨o2, p2, sz, hq⟩ := q
      refine ⟨_, rfl, r, CR, R.dx, _, _, rfl, o2, X.cl, X.shop, rF_get0, _, rfl, _, rfl, y.p, CP, y.dp, _, _, rfl, p2.ob, XP.cl, XP.answers, pF_get0, _, rfl, small_sz (n := 1) (by decide), fun t ht => ?_⟩
      have st := same_new (o := HO.tup [ans]) ht
      refine ⟨y.an, t, y.ans, [ans], rfl, rfl, seqT_same st p2.a, SqT.of upd_same, small_sz sz, fun e => ?_, fun _ e => (nomatch e), fun _ _ p hp => ?_⟩
      · have z := hq t _ st (by rw [e]; exact SqT.of upd_same)
        refine ⟨_, _, z, fun pl H3 q => ?_, fun _ _ _ z => z⟩
        obtain ⟨plv, rfl, o3, l3, d3, ne, few, py, pne, hq⟩ := q
        have hn : n < (R.places.map fun x => V.ref x.p).length := by
          rw [List.length_map]
          exact (List.getElem?_eq_some_iff.mp ey).1
        refine ⟨_, rfl, _, rfl, r, CR, R.dx, _, rfl, o3, X.cl, X.things, (by show 4 < 1000; decide), ?_⟩
        rw [rF_put1]
        have l4 : upd H3 r (.ins CR R.dx (rF (.ref R.sh) (.ref t2) (.ref R.pl) (.ref R.dn))) R.pl = _ := (upd_ne (ne_of l3 o3 (by intro z; cases z))).trans l3
        refine ⟨_, rfl, _, rfl, r, CR, R.dx, _, _, rfl, upd_same, X.cl, X.places, rF_get2, _, rfl, R.pl, _, _, n, rfl, rfl, l4, ixN_at hn, ?_⟩
        have o5 : goHp CR r R n t2 plv H3 r = some (.ins CR R.dx (rF (.ref R.sh) (.ref t2) (.ref R.pl) (.ref R.dn))) := (upd_ne (ne_of o3 l3 (by intro z; cases z))).trans upd_same
        have d5 : goHp CR r R n t2 plv H3 R.dn = some (.lst R.done) := (upd_ne ne).trans ((upd_ne (ne_of d3 o3 (by intro z; cases z))).trans d3)
        have y5 : goHp CR r R n t2 plv H3 y.p = _ := (upd_ne (ne_of py l3 (by intro z; cases z))).trans ((upd_ne pne).trans py)
        refine ⟨_, rfl, r, CR, R.dx, _, _, rfl, o5, X.cl, X.done, rF_get3, .inl ⟨rfl, _, SqL.of d5⟩, ?_⟩
        refine ⟨_, rfl, _, rfl, y.p, CP, y.dp, _, _, rfl, y5, XP.cl, XP.pending, pF_get1, _, rfl, small_sz (n := 3) (by decide), fun tt htt => ?_⟩
        exact ⟨R.dn, _, _, rfl, rfl, (upd_ne (ne_of_none d5 htt)).trans d5, few, _, rfl, hq tt htt⟩
      · have z := hq p _ (st.trans (same_new hp)) (SqT.of upd_same)
        refine ⟨_, _, z, fun pl H3 q => ?_, fun _ _ _ z => z⟩
        obtain ⟨plv, rfl, o3, l3, d3, ne, few, py, pne, hq⟩ := q
        have hn : n < (R.places.map fun x => V.ref x.p).length := by
          rw [List.length_map]
          exact (List.getElem?_eq_some_iff.mp ey).1
        refine ⟨_, rfl, _, rfl, r, CR, R.dx, _, rfl, o3, X.cl, X.things, (by show 4 < 1000; decide), ?_⟩
        rw [rF_put1]
        have l4 : upd H3 r (.ins CR R.dx (rF (.ref R.sh) (.ref t2) (.ref R.pl) (.ref R.dn))) R.pl = _ := (upd_ne (ne_of l3 o3 (by intro z; cases z))).trans l3
        refine ⟨_, rfl, _, rfl, r, CR, R.dx, _, _, rfl, upd_same, X.cl, X.places, rF_get2, _, rfl, R.pl, _, _, n, rfl, rfl, l4, ixN_at hn, ?_⟩
        have o5 : goHp CR r R n t2 plv H3 r = some (.ins CR R.dx (rF (.ref R.sh) (.ref t2) (.ref R.pl) (.ref R.dn))) := (upd_ne (ne_of o3 l3 (by intro z; cases z))).trans upd_same
        have d5 : goHp CR r R n t2 plv H3 R.dn = some (.lst R.done) := (upd_ne ne).trans ((upd_ne (ne_of d3 o3 (by intro z; cases z))).trans d3)
        have y5 : goHp CR r R n t2 plv H3 y.p = _ := (upd_ne (ne_of py l3 (by intro z; cases z))).trans ((upd_ne pne).trans py)
        refine ⟨_, rfl, r, CR, R.dx, _, _, rfl, o5, X.cl, X.done, rF_get3, .inl ⟨rfl, _, SqL.of d5⟩, ?_⟩
        refine ⟨_, rfl, _, rfl, y.p, CP, y.dp, _, _, rfl, y5, XP.cl, XP.pending, pF_get1, _, rfl, small_sz (n := 3) (by decide), fun tt htt => ?_⟩
        exact ⟨R.dn, _, _, rfl, rfl, (upd_ne (ne_of_none d5 htt)).trans d5, few, _, rfl, hq tt htt⟩
end
end TW
namespace TW
open PySem PySem.Spec PyProof.Rows L2
abbrev s_ends : Stmt := inClass (top 53) 6
abbrev s_over : Stmt := inClass (top 53) 12
def spEnds (K : PySem.W.Frag) (CR CT CP : Addr) : Sp := fun vs H Q _ => ∃ (r : Addr) (R : RS), vs = [.ref r] ∧ RunAt K CR CT CP H r R ∧ R.places.length ≤ 1000 ∧ ∀ (t : Addr) (H' : Hp), H t = none → Same H H' → H' t = some (.tup (R.places.map PS.fin)) → Q (.ref t) H'
def spOver (K : PySem.W.Frag) (CR CT CP : Addr) (Rel : Hp → V → V → Bool → Prop) : Sp := fun vs H Q _ => ∃ (r : Addr) (R : RS) (f : Nat → Bool), vs = [.ref r] ∧ RunAt K CR CT CP H r R ∧ R.places.length ≤ 1000 ∧ (∀ (i : Nat) y, R.places[i]? = some y → CanGo K Rel H R.T y.pend (f i)) ∧
  ∀ H', Same H H' → Q (.bl (upTo f R.places.length).isEmpty) H'
section
variable {P : Program} {w : World} {K : PySem.W.Frag} {mg : Str → Option Value} {base : Heap} {CR CT CP CW : Addr} {n : Nat}
theorem sc_ends : FnScope ["self", "place"] ["self"] (defScope s_ends) := ⟨rfl, rfl, rfl, by decide +kernel, rfl, by decide +kernel, by decide +kernel⟩
theorem ok_ends {f : Addr} {fd : FuncData} (F : Fun K "ends" "Run.ends" s_ends f fd) (B : Blt mg) (X : RTxt K CR) (XP : PTxt K CP) : FnOk P w K mg base CX0 1 f fd ["self"] (spEnds K CR CT CP) := by
  refine F.ok sc_ends (fun vs H Q E h => ?_) (fun cdv A outer s H vs Q E hr h => ?_)
  · obtain ⟨r, R, rfl, _⟩ := h
    rfl
  · obtain ⟨r, R, rfl, hR, few, hq⟩ := h
    refine ⟨_, pss_one (ps_ret (pe_callTy call_tuple_of (by rfl) B.tuple (by decide +kernel) (pa_cons (pe_lc (own := [("place", 1)]) rfl sc_ends.nd (pi_list (pe_fld (pv 0) rfl)) (blkOk_by (N := ["self", "place"]) (sc := defScope s_ends) (by decide +kernel))
      (fun _ _ _ _ _ => pg_name (i := 1) sc_ends.nd rfl (Or.inl rfl)) (fun _ _ _ _ _ => pts_nil) (te := tFld K (tVar 1) "end") (fun _ _ _ _ _ => by exact pe_fld (pv 1) rfl)) pa_nil))), ?_⟩
    refine ⟨_, rfl, r, CR, R.dx, _, _, rfl, hR.ob, X.cl, X.places, rF_get2, R.pl, rfl, ⟨_, SqL.of hR.p⟩, fun D hD => ?_⟩
    refine lc_list (K := K) (a := R.pl) (xs := R.places.map fun x => V.ref x.p) (fun i H' => Same H H' ∧ H' D = some (.lst ((R.places.take i).map PS.fin))) ⟨same_new hD, upd_same⟩ (fun i H' _ p => SqL.of (p.1 _ _ hR.p)) (fun i x H' e p => ?_) (fun H1 p => ?_)
    · rw [List.getElem?_map] at e
      cases q : R.places[i]? with
      | none =>
        rw [q] at e
        cases e
      | some y =>
        rw [q] at e
        obtain rfl := (Option.some.inj e).symm
        have hP := (hR.e y (List.mem_of_getElem? q)).same p.1
        refine ⟨rfl, ?_⟩
        unfold tYes
        dsimp only
        refine iteT ?_
        refine ⟨_, rfl, y.p, CP, y.dp, _, _, rfl, hP.ob, XP.cl, XP.end_, pF_get2, _, p.2, ?_, fun b o z => ?_, ?_⟩
        · rw [List.length_map, List.length_take]
          exact Nat.lt_of_lt_of_le (Nat.lt_succ_of_le (Nat.le_trans (Nat.min_le_right _ _) few)) (small_sz (by decide))
        · rw [upd_ne (ne_of_none z hD)]
          exact p.1 b o z
        · rw [upd_same, take_one q, List.map_append]
          rfl
    · have z := p.2
      rw [List.length_map, List.take_length] at z
      refine ⟨D, _, rfl, .inl ⟨SqL.of z, fun t ht => ?_⟩⟩
      exact hq t _ (p.1.free ht) (p.1.trans (same_new ht)) upd_same
theorem sc_over : FnScope ["self"] ["self"] (defScope s_over) := ⟨rfl, rfl, rfl, by decide +kernel, rfl, by decide +kernel, by decide +kernel⟩
theorem ok_over {f fC : Addr} {fd fdC : FuncData} {Rel : Hp → V → V → Bool → Prop} (F : Fun K "is_over" "Run.is_over" s_over f fd) (X : RTxt K CR) (hM : Meth K CR "can" fC) (G : FnOk P w K mg base CX0 (n + 4) fC fdC ["self"] (spCan K CR CT CP Rel)) (bC : Binds K fdC ["self"] []) :
    FnOk P w K mg base CX0 (n + 5) f fd ["self"] (spOver K CR CT CP Rel) := by
  refine F.ok sc_over (fun vs H Q E h => ?_) (fun cdv A outer s H vs Q E hr h => ?_)
  · obtain ⟨r, R, g, rfl, _⟩ := h
    rfl
  · obtain ⟨r, R, g, rfl, hR, few, hC, hq⟩ := h
    refine ⟨_, pss_one (ps_ret (pe_notT (pe_meth0 (pv 0) X.cl hM G hr bC .nil pass0))), ?_⟩
    refine ⟨_, rfl, r, R.dx, _, rfl, hR.ob, rF_no (by decide) (by decide) (by decide) (by decide), ?_⟩
    refine ⟨r, R, g, rfl, hR, few, hC, fun D H' hD sm e => ?_⟩
    refine ⟨_, .inl ⟨_, SqL.of e, rfl⟩, ?_⟩
    rw [Bool.not_not]
    exact hq H' sm
end
end TW
namespace TW
open PySem PySem.Spec PyProof.Rows L2
theorem walk_zipT {K : PySem.W.Frag} {a b : Addr} {xs ys : List V} {n : Nat} (hn : n = min xs.length ys.length) : Walk (RZ.ItzT K a b) n (fun H => SqT K H a xs ∧ SqT K H b ys) (YPair (fun i => xs[i]?) (fun i => ys[i]?)) := by
  subst hn
  constructor
  · intro i H hi q
    have h1 : i < xs.length := by omega
    have h2 : i < ys.length := by omega
    exact ⟨xs, ys, xs[i], ys[i], q.1, q.2, by simp [h1], by simp [h2]⟩
  · intro H q
    exact ⟨xs, ys, q.1, q.2, by omega⟩
  · rintro i H v H' _ q ⟨T, x, z, h1, h2, h3, h4, h5⟩
    exact ⟨T, x, z, h1, h2, h3, h4 xs q.1, h5 ys q.2⟩
/-- whether two values are the same, nested at most n deep; base: all but two tuples (numbers and tuples are compared only where neither or both are truths) -/
inductive Sm (K : PySem.W.Frag) (H : Hp) : Nat → V → V → Bool → Prop where
  | base (n : Nat) {x y : V} {T U : String} {i1 i2 ib jb : Bool} (tx : ∀ H', Same H H' → TyX K H' x (.type T)) (ty : ∀ H', Same H H' → TyX K H' y (.type U)) (k1 : kitB T "tuple" = some i1) (k2 : kitB U "tuple" = some i2) (k3 : (i1 && i2) = false)
      (b1 : kitB T "bool" = some ib) (b2 : kitB U "bool" = some jb) (sc : ib = jb → scal x y = true) : Sm K H n x y ((ib == jb) && decide (x = y))
  | tupN (n : Nat) {a c : Addr} {xs ys : List V} (ha : SqT K H a xs) (hc : SqT K H c ys) (ne : xs.length ≠ ys.length) : Sm K H n (.ref a) (.ref c) false
  | tup {n : Nat} {a c : Addr} {xs ys : List V} {bs : List Bool} (ha : SqT K H a xs) (hc : SqT K H c ys) (hl : xs.length = ys.length) (hb : xs.length = bs.length) (few : xs.length ≤ 1000)
      (each : ∀ (i : Nat) (x y : V) (b : Bool), xs[i]? = some x → ys[i]? = some y → bs[i]? = some b → Sm K H n x y b) : Sm K H (n + 1) (.ref a) (.ref c) (bs.all id)
theorem Sm.same {K : PySem.W.Frag} {H H' : Hp} {n : Nat} {x y : V} {b : Bool} (e : Same H H') (h : Sm K H n x y b) : Sm K H' n x y b := by
  induction h with
  | base n tx ty k1 k2 k3 b1 b2 sc => exact .base n (fun H'' z => tx H'' (e.trans z)) (fun H'' z => ty H'' (e.trans z)) k1 k2 k3 b1 b2 sc
  | tupN n ha hc ne => exact .tupN n (seqT_same e ha) (seqT_same e hc) ne
  | tup ha hc hl hb few _ ih => exact .tup (seqT_same e ha) (seqT_same e hc) hl hb few fun i x y b h1 h2 h3 => ih i x y b h1 h2 h3
theorem Sm.keeps {K : PySem.W.Frag} {n : Nat} : Keeps (fun H x y b => Sm K H n x y b) := fun _ _ _ _ _ e h => h.same e
abbrev sSm : Stmt := top 18
section
variable {P : Program} {w : World} {K : PySem.W.Frag} {mg : Str → Option Value} {base : Heap}
theorem scSm : FnScope ["one", "other", "inner", "partner"] ["one", "other"] (defScope sSm) := ⟨rfl, rfl, rfl, by decide +kernel, rfl, by decide +kernel, by decide +kernel⟩
theorem sm_body {f : Addr} {fd : FuncData} {n k : Nat} {spR : Sp} (F : Fun K "same" "same" sSm f fd) (B : Blt mg) (hm : mg "same" = some (.ref f)) (bS : Binds K fd ["one", "other"] [])
    (R : FnOk P w K mg base CX0 k f fd ["one", "other"] spR) (hR : ∀ m, n = m + 1 → spR = spSm (fun H x y b => Sm K H m x y b)) : FnOk P w K mg base CX0 (k + 1) f fd ["one", "other"] (spSm (fun H x y b => Sm K H n x y b)) := by
  refine F.ok scSm (fun vs H Q E h => ?_) (fun cdv A outer s H vs Q E hr h => ?_)
  · obtain ⟨x, y, b, rfl, _⟩ := h
    rfl
  · obtain ⟨x, y, b, rfl, hV, kQ⟩ := h
    refine ⟨_, pss_cons (ps_if (PW.pt (pw_and (pt_val (pe_callB call_isi (by rfl) B.isi (by decide +kernel) (pa_cons (pv 0) (pa_cons (pe_bltn (v := .ty "tuple") (by rfl) B.tuple (by decide +kernel) rfl) pa_nil))))
          (pw_and1 (pt_val (pe_callB call_isi (by rfl) B.isi (by decide +kernel) (pa_cons (pv 1) (pa_cons (pe_bltn (v := .ty "tuple") (by rfl) B.tuple (by decide +kernel) rfl) pa_nil)))))))
        (pss_cons (ps_if (pt_cmpR op_ne (pe_callB call_len_seq (by rfl) B.len PySem.boot_len (pa_cons (pv 0) pa_nil)) (pe_callB call_len_seq (by rfl) B.len PySem.boot_len (pa_cons (pv 1) pa_nil)) (nomark _)) (pss_one (ps_ret pe_bl)) pss_nil)
        (pss_one (ps_ret (pe_callB (cr_all rfl) (by rfl) B.all (by decide +kernel) (pa_cons
          (pe_lc (own := [("inner", 2), ("partner", 3)]) rfl scSm.nd (RZ.pi_zipA (by rfl) B.zip (pa_cons (pv 0) (pa_cons (pv 1) pa_nil))) (blkOk_by (N := ["one", "other", "inner", "partner"]) (sc := defScope sSm) (by decide +kernel))
            (fun _ _ _ _ _ => pg_tupC (n := 2) rfl (pgs_cons (pg_name (i := 2) scSm.nd rfl (Or.inl rfl)) (pgs_cons (pg_name (i := 3) scSm.nd rfl (Or.inl rfl)) pgs_nil))) (fun _ _ _ _ _ => pts_nil)
            (fun _ _ _ _ _ => pe_call R hr rfl hm F.kp bS .nil pass0 (pa_cons (pv 2) (pa_cons (pv 3) pa_nil)))) pa_nil))))) pss_nil)
      (pss_one (ps_ret (pe_and (pe_cmpR op_eq (pe_callB call_isi (by rfl) B.isi (by decide +kernel) (pa_cons (pv 0) (pa_cons (pe_bltn (v := .ty "bool") (by rfl) B.bool (by decide +kernel) rfl) pa_nil))) (pe_callB call_isi (by rfl) B.isi (by decide +kernel) (pa_cons (pv 1) (pa_cons (pe_bltn (v := .ty "bool") (by rfl) B.bool (by decide +kernel) rfl) pa_nil))) (nomark _))
        (pe_one (pe_cmpR op_eq (pv 0) (pv 1) (nomark _)))))), ?_⟩
    cases hV with
    | @base _ _ _ T U i1 i2 ib jb tx ty k1 k2 k3 b1 b2 sc =>
      refine ⟨_, rfl, _, _, _, _, _, rfl, .ty _, tx _ (Same.refl _), kit_ty k1, _, rfl, ?_⟩
      cases i1 with
      | false =>
        refine iteF (iteF ?_)
        refine ⟨_, rfl, _, _, _, _, _, rfl, .ty _, tx _ (Same.refl _), kit_ty b1, _, rfl, _, _, _, _, _, rfl, .ty _, ty _ (Same.refl _), kit_ty b2, rfl, _, rfl, ?_⟩
        have z := kQ _ (Same.refl _)
        by_cases c : ib = jb
        · subst c
          refine iteD rfl ?_
          refine ⟨_, rfl, _, rfl, sc rfl, ?_⟩
          have e : (ib == ib) = true := by cases ib <;> rfl
          rw [e, Bool.true_and] at z
          exact z
        · rw [decide_eq_false (fun z => c (V.bl.inj z))]
          have e : (ib == jb) = false := by
            cases ib <;> cases jb <;> first | rfl | exact absurd rfl c
          rw [e, Bool.false_and] at z
          exact iteF z
      | true =>
        refine iteT ?_
        have e2 : i2 = false := k3
        subst e2
        refine ⟨_, rfl, _, _, _, _, _, rfl, .ty _, ty _ (Same.refl _), kit_ty k2, _, rfl, ?_⟩
        refine iteF ?_
        refine ⟨_, rfl, _, _, _, _, _, rfl, .ty _, tx _ (Same.refl _), kit_ty b1, _, rfl, _, _, _, _, _, rfl, .ty _, ty _ (Same.refl _), kit_ty b2, rfl, _, rfl, ?_⟩
        have z := kQ _ (Same.refl _)
        by_cases c : ib = jb
        · subst c
          refine iteD rfl ?_
          refine ⟨_, rfl, _, rfl, sc rfl, ?_⟩
          have e : (ib == ib) = true := by cases ib <;> rfl
          rw [e, Bool.true_and] at z
          exact z
        · rw [decide_eq_false (fun z => c (V.bl.inj z))]
          have e : (ib == jb) = false := by
            cases ib <;> cases jb <;> first | rfl | exact absurd rfl c
          rw [e, Bool.false_and] at z
          exact iteF z
    | @tupN _ a c xs ys ha hc ne =>
      refine ⟨_, rfl, _, _, _, _, _, rfl, .ty _, tyx_tup ha, kit_ty (r := true) (by decide +kernel), _, rfl, ?_⟩
      refine iteT ?_
      refine ⟨_, rfl, _, _, _, _, _, rfl, .ty _, tyx_tup hc, kit_ty (r := true) (by decide +kernel), _, rfl, ?_⟩
      refine iteT ?_
      refine ⟨_, rfl, a, _, rfl, .inr ha, _, rfl, c, _, rfl, .inr hc, rfl, _, rfl, ?_⟩
      rw [decide_eq_false (by intro z; apply ne; have := V.int.inj z; omega)]
      exact iteT (kQ _ (Same.refl _))
    | @tup m a c xs ys bs ha hc hl hb few each =>
      have e := hR m rfl
      subst e
      refine ⟨_, rfl, _, _, _, _, _, rfl, .ty _, tyx_tup ha, kit_ty (r := true) (by decide +kernel), _, rfl, ?_⟩
      refine iteT ?_
      refine ⟨_, rfl, _, _, _, _, _, rfl, .ty _, tyx_tup hc, kit_ty (r := true) (by decide +kernel), _, rfl, ?_⟩
      refine iteT ?_
      refine ⟨_, rfl, a, _, rfl, .inr ha, _, rfl, c, _, rfl, .inr hc, rfl, _, rfl, ?_⟩
      rw [decide_eq_true (by rw [hl])]
      refine iteF ?_
      refine ⟨_, rfl, _, rfl, a, c, xs, ys, rfl, .inr ⟨ha, hc, fun D hD => ?_⟩⟩
      refine lc_it (walk_zipT rfl) (fun i H' => Same H H' ∧ H' D = some (.lst ((bs.take i).map V.bl))) ⟨same_new hD, upd_same⟩ (fun i H' _ z => ⟨seqT_same z.1 ha, seqT_same z.1 hc⟩) ?_ ?_
      · rintro i v H' H'' hi ⟨z, hd⟩ ⟨T', x, y, rfl, hT', rfl, hx, hy⟩
        have hib : i < bs.length := by omega
        have eb : bs[i]? = some bs[i] := List.getElem?_eq_getElem hib
        refine ⟨T', [x, y], rfl, SqT.of upd_same, rfl, x, [y], rfl, y, [], rfl, rfl, rfl, ?_⟩
        unfold tYes
        dsimp only
        refine iteT ?_
        refine ⟨_, rfl, _, rfl, x, y, bs[i], rfl, (each i x y _ hx hy eb).same (z.trans (same_new hT')), fun H4 s4 => ?_⟩
        refine ⟨_, s4 _ _ (same_new hT' _ _ hd), ?_, fun c o e => ?_, ?_⟩
        · rw [List.length_map, List.length_take]
          exact Nat.lt_of_lt_of_le (Nat.lt_succ_of_le (Nat.le_trans (Nat.min_le_right _ _) (hb ▸ few))) (small_sz (by decide))
        · rw [upd_ne (ne_of_none e hD)]
          exact s4 c o (same_new hT' c o (z c o e))
        · rw [upd_same, take_one eb, List.map_append]
          rfl
      · rintro H' ⟨z, hd⟩
        rw [show min xs.length ys.length = bs.length by omega, List.take_length] at hd
        exact ⟨D, bs, rfl, SqL.of hd, kQ _ z⟩
theorem ok_same {f : Addr} {fd : FuncData} (F : Fun K "same" "same" sSm f fd) (B : Blt mg) (hm : mg "same" = some (.ref f)) (bS : Binds K fd ["one", "other"] []) : ∀ n, FnOk P w K mg base CX0 (n + 1) f fd ["one", "other"] (spSm (fun H x y b => Sm K H n x y b))
  | 0 => sm_body (spR := fun _ _ _ _ => False) F B hm bS fn_never (fun m e => nomatch e)
  | n + 1 => sm_body F B hm bS (ok_same F B hm bS n) (fun m e => by cases e; rfl)
end
end TW
namespace TW
open PySem PySem.Spec PyProof.Rows L2
/-- an expression of a row: a value, what was noted, what was noted and a number more -/
inductive Part where
  | value (v : V)
  | note (k : Int)
  | plus (k n : Int)
/-- a row of a plan: kind, name, parts, where its answer is noted -/
structure Row where
  kind : Str
  name : Str
  parts : List Part
  note : Int
def PartAt (K : PySem.W.Frag) (H : Hp) (x : V) : Part → Prop
  | .value v => ∃ t, x = .ref t ∧ SqT K H t [.str "value", v]
  | .note k => ∃ t, x = .ref t ∧ SqT K H t [.str "note", .int k]
  | .plus k n => ∃ t, x = .ref t ∧ SqT K H t [.str "plus", .int k, .int n]
structure RowAt (K : PySem.W.Frag) (H : Hp) (x : V) (r : Row) : Prop where
  ex : ∃ t ps xs, x = .ref t ∧ SqT K H t [.str r.kind, .str r.name, .ref ps, .int r.note] ∧ SqT K H ps xs ∧ xs.length = r.parts.length ∧ ∀ (i : Nat) (y : V) (p : Part), xs[i]? = some y → r.parts[i]? = some p → PartAt K H y p
theorem PartAt.tk {K : PySem.W.Frag} {H H' : Hp} {x : V} {p : Part} (e : ∀ a xs, SqT K H a xs → SqT K H' a xs) (h : PartAt K H x p) : PartAt K H' x p := by
  cases p with
  | value v => exact h.imp fun t z => ⟨z.1, e _ _ z.2⟩
  | note k => exact h.imp fun t z => ⟨z.1, e _ _ z.2⟩
  | plus k n => exact h.imp fun t z => ⟨z.1, e _ _ z.2⟩
theorem RowAt.tk {K : PySem.W.Frag} {H H' : Hp} {x : V} {r : Row} (e : ∀ a xs, SqT K H a xs → SqT K H' a xs) (h : RowAt K H x r) : RowAt K H' x r := by
  obtain ⟨t, ps, xs, e1, e2, e3, e4, e5⟩ := h.ex
  exact ⟨t, ps, xs, e1, e _ _ e2, e _ _ e3, e4, fun i y p h1 h2 => (e5 i y p h1 h2).tk e⟩
/-- what was noted under k -/
def noted (ns : List (Key × V)) (k : Int) : V := (valV ns (Sum.inl k)).getD (.int 0)
/-- what an expression is, with these notes -/
def partV (ns : List (Key × V)) : Part → V
  | .value v => v
  | .note k => noted ns k
  | .plus k n => match noted ns k with
    | .int i => .int (i + n)
    | v => v
/-- what isinstance says of a value: whether it is an int and no truth -/
def NumT (K : PySem.W.Frag) (H : Hp) (v : V) : Prop := ∃ T a b, TyX K H v (.type T) ∧ kitB T "int" = some a ∧ kitB T "bool" = some b ∧ ((∃ i, v = .int i) ↔ (a && !b) = true)
theorem numT_vn {K : PySem.W.Frag} {H : Hp} {n : Nat} {v : V} (h : Vn K H n v true) : NumT K H v := by
  generalize hb : true = b at h
  cases h with
  | non => exact ⟨"NoneType", false, false, .base .non, by decide +kernel, by decide +kernel, ⟨fun ⟨i, e⟩ => (nomatch e), fun e => (nomatch e)⟩⟩
  | bl _ c => exact ⟨"bool", true, true, .base (.bl c), by decide +kernel, by decide +kernel, ⟨fun ⟨i, e⟩ => (nomatch e), fun e => (nomatch e)⟩⟩
  | int _ i => exact ⟨"int", true, false, .base (.int i), by decide +kernel, by decide +kernel, ⟨fun _ => rfl, fun _ => ⟨i, rfl⟩⟩⟩
  | str _ s => exact ⟨"str", false, false, .base (.str s), by decide +kernel, by decide +kernel, ⟨fun ⟨i, e⟩ => (nomatch e), fun e => (nomatch e)⟩⟩
  | tup h => exact ⟨"tuple", false, false, tyx_tup h, by decide +kernel, by decide +kernel, ⟨fun ⟨i, e⟩ => (nomatch e), fun e => (nomatch e)⟩⟩
  | other => cases hb
abbrev sTold : Stmt := top 69
def spTold (K : PySem.W.Frag) : Sp := fun vs H Q _ => ∃ (x : V) (p : Part) (nd : Addr) (ns : List (Key × V)), vs = [x, .ref nd] ∧ PartAt K H x p ∧ H nd = some (.dK ns) ∧ (∀ k, NumT K H (noted ns k)) ∧ Q (partV ns p) H
section
variable {P : Program} {w : World} {K : PySem.W.Frag} {mg : Str → Option Value} {base : Heap}
theorem scTold : FnScope ["_law_row", "_law_notes", "_law_here"] ["_law_row", "_law_notes"] (defScope sTold) := ⟨rfl, rfl, rfl, by decide +kernel, rfl, by decide +kernel, by decide +kernel⟩
theorem ok_told {f : Addr} {fd : FuncData} (F : Fun K "_law_told" "_law_told" sTold f fd) (B : Blt mg) : FnOk P w K mg base CX0 1 f fd ["_law_row", "_law_notes"] (spTold K) := by
  refine F.ok scTold (fun vs H Q E h => ?_) (fun cdv A outer s H vs Q E hr h => ?_)
  · obtain ⟨x, p, nd, ns, rfl, _⟩ := h
    rfl
  · obtain ⟨x, p, nd, ns, rfl, hp, hn, num, k⟩ := h
    have hu := hu_of hr
    refine ⟨_, pss_cons (ps_if (pt_cmpR op_eq (pe_ix ix_tup (pv 0) pe_int (fun _ _ => rfl)) pe_str (nomark _)) (pss_one (ps_ret (pe_ix ix_tup (pv 0) pe_int (fun _ _ => rfl)))) pss_nil)
      (pss_cons (ps_set (i := 2) scTold.nd rfl (.inl rfl) (pe_dget2 hu (pv 1) (pe_ix ix_tup (pv 0) pe_int (fun _ _ => rfl)) pe_int ⟨rfl, rfl, rfl, rfl⟩))
      (pss_cons (ps_if (PW.pt (pw_and (pt_cmpR op_eq (pe_ix ix_tup (pv 0) pe_int (fun _ _ => rfl)) pe_str (nomark _)) (pw_and (pt_val (pe_callB call_isi (by rfl) B.isi (by decide +kernel) (pa_cons (pv 2) (pa_cons (pe_bltn (v := .ty "int") (by rfl) B.int (by decide +kernel) rfl) pa_nil))))
          (pw_and1 (pt_not (pt_val (pe_callB call_isi (by rfl) B.isi (by decide +kernel) (pa_cons (pv 2) (pa_cons (pe_bltn (v := .ty "bool") (by rfl) B.bool (by decide +kernel) rfl) pa_nil)))))))))
        (pss_one (ps_ret (pe_op op_add (pv 2) (pe_ix ix_tup (pv 0) pe_int (fun _ _ => rfl))))) pss_nil)
      (pss_one (ps_ret (pv 2))))), ?_⟩
    cases p with
    | value v =>
      obtain ⟨t, rfl, ht⟩ := hp
      refine ⟨_, rfl, t, _, _, _, rfl, rfl, ht, atI_nat (j := 0) rfl, rfl, _, rfl, ?_⟩
      rw [decide_eq_true rfl]
      exact iteT ⟨_, rfl, t, _, _, _, rfl, rfl, ht, atI_nat (j := 1) rfl, k⟩
    | note kk =>
      obtain ⟨t, rfl, ht⟩ := hp
      refine ⟨_, rfl, t, _, _, _, rfl, rfl, ht, atI_nat (j := 0) rfl, rfl, _, rfl, ?_⟩
      rw [decide_eq_false (by decide +kernel)]
      refine iteF ?_
      refine ⟨_, rfl, nd, rfl, .inl ⟨ns, .inl hn⟩, _, rfl, t, _, _, _, rfl, rfl, ht, atI_nat (j := 1) rfl, _, DGet.k (k := Sum.inl kk) hn, ?_⟩
      refine ⟨_, rfl, t, _, _, _, rfl, rfl, ht, atI_nat (j := 0) rfl, rfl, _, rfl, ?_⟩
      rw [decide_eq_false (by decide +kernel)]
      exact iteF (iteF ⟨_, rfl, k⟩)
    | plus kk n =>
      obtain ⟨t, rfl, ht⟩ := hp
      refine ⟨_, rfl, t, _, _, _, rfl, rfl, ht, atI_nat (j := 0) rfl, rfl, _, rfl, ?_⟩
      rw [decide_eq_false (by decide +kernel)]
      refine iteF ?_
      refine ⟨_, rfl, nd, rfl, .inl ⟨ns, .inl hn⟩, _, rfl, t, _, _, _, rfl, rfl, ht, atI_nat (j := 1) rfl, _, DGet.k (k := Sum.inl kk) hn, ?_⟩
      refine ⟨_, rfl, t, _, _, _, rfl, rfl, ht, atI_nat (j := 0) rfl, rfl, _, rfl, ?_⟩
      rw [decide_eq_true rfl]
      refine iteT ?_
      obtain ⟨T, a, b, ty, ka, kb, both⟩ := num kk
      have hh : (valV ns (Sum.inl kk)).getD (.int 0) = noted ns kk := rfl
      rw [hh]
      have k2 : Q (match noted ns kk with | .int i => .int (i + n) | v => v) H := k
      generalize noted ns kk = here at *
      refine ⟨_, rfl, _, _, _, _, _, rfl, .ty _, ty, kit_ty ka, _, rfl, ?_⟩
      cases a with
      | false =>
        refine iteF (iteF ⟨_, rfl, ?_⟩)
        cases here with
        | int i => exact absurd (both.mp ⟨i, rfl⟩) (by first | decide | (cases b <;> decide))
        | _ => exact k2
      | true =>
        refine iteT ⟨_, rfl, _, _, _, _, _, rfl, .ty _, ty, kit_ty kb, _, rfl, ?_⟩
        cases b with
        | true =>
          refine iteF ⟨_, rfl, ?_⟩
          cases here with
          | int i => exact absurd (both.mp ⟨i, rfl⟩) (by first | decide | (cases b <;> decide))
          | _ => exact k2
        | false =>
          obtain ⟨i, rfl⟩ := both.mpr rfl
          exact iteT ⟨_, rfl, _, rfl, t, _, _, _, rfl, rfl, ht, atI_nat (j := 2) rfl, _, _, rfl, rfl, k2⟩
end
end TW
namespace L2
open PySem PySem.Spec PyProof.Rows LamX
/-- a lambda that has captured cl stands at f, its code object at c' -/
def CloV (f c' : Addr) (q : Str) (params : Arguments) (body : Expr) (scope : Scope) (cl : List (Str × Addr)) : HO := .ext fun h => ∃ pm ctv : Value, h.get? f = some (PySem.W.kla_obj "<lambda>" q params body scope cl pm c' ctv)
theorem cloV_ok {P : Program} {w : World} {H : Hp} {h : Heap} {f c' : Addr} {q : Str} {params : Arguments} {body : Expr} {scope : Scope} {cl : List (Str × Addr)} {pm ctv : Value} (e : h.get? f = some (PySem.W.kla_obj "<lambda>" q params body scope cl pm c' ctv)) : ObjOk P w H h f (CloV f c' q params body scope cl) :=
  ⟨⟨pm, ctv, e⟩, ⟨_, e⟩, fun _ _ ⟨a, b, z⟩ k => ⟨a, b, k _ z⟩⟩
section
variable {X : Cx} {pins : List (Addr × Obj)} {σ : L2.St} {H : Hp} {s : Shared}
/-- a lambda with captured names is made, and tracked -/
theorem cloV_laid {T : List (Addr × Str)} {c P : Addr} {params : Arguments} {body : Expr} {scope : Scope} {pos : Pos} {E : Value → Shared → Prop} {Q : Value → Shared → Prop} (I : Inv X pins σ H s) (TB : TabB X.base X.mg c P) (hcode : X.env.code = .ref c)
    (hm : (P, X.env.qual ++ "<lambda>") ∈ T) (hu : ∀ p ∈ T, p.1 = P → p.2 = X.env.qual ++ "<lambda>") (hT : Tabs T H) (hdef : defaultsOf params X.env = ([], [])) (hfr : ∀ y ∈ scope.names, y.2 = .free → ∃ c, X.env.cells.lookup y.1 = some c)
    (h : ∀ (f c' : Addr) (H1 : Hp) (s' : Shared), Inv X pins σ (upd H1 f (CloV f c' (X.env.qual ++ "<lambda>") params body scope (cloFrom X.env.cells scope.names []))) s' → ExtN H H1 → Tabs T H1 → H1 f = none → H1 c' = some (CodeO c' (X.env.qual ++ "<lambda>")) → Q (.ref f) s') :
    wpAny (model X.prog X.w) X.A (eval (.Lambda params body scope pos) X.env) Q E s := by
  obtain ⟨ps, hP, ht, ha⟩ := hT _ hm
  have okc : closureFor scope X.env = pure (cloFrom X.env.cells scope.names []) := closure_ok hfr
  refine PySem.W.kla_eval hdef ?_
  have bP : s.heap.BuiltinsAt X.mg P := TB.bm.keeps I.bk
  have hP' : s.heap.get? P = some { cls := .none, data := .fields ps } := I.hok P _ hP
  have lay : ∀ {H1 : Hp} {h' : Heap} {c' : Addr} {pm ctv : Value} {tk : Nat}, Inv X pins σ H1 { s with heap := h', toks := tk } →
      Inv X pins σ (upd H1 h'.objs.size (CloV h'.objs.size c' (X.env.qual ++ "<lambda>") params body scope (cloFrom X.env.cells scope.names []))) { s with heap := h'.push (PySem.W.kla_obj "<lambda>" (X.env.qual ++ "<lambda>") params body scope (cloFrom X.env.cells scope.names []) pm c' ctv), toks := tk } := fun {H1 h' c' pm ctv tk} J =>
    J.laid (t' := tk) (a := h'.objs.size) (h' := h'.push (PySem.W.kla_obj "<lambda>" (X.env.qual ++ "<lambda>") params body scope (cloFrom X.env.cells scope.names []) pm c' ctv)) (fun b o e => Heap.get?_push_of_some _ e) (Nat.le_refl _) (cloV_ok (Heap.get?_push_size _ rfl))
  cases hc : codeAmong pos ps.toList with
  | none =>
    refine PySem.W.kla_makeFunction (mg := X.mg) (c := c) (P := P) (ps := ps) okc I.ok.glob (I.mod.glob.keeps I.bk) hcode (TB.code.keeps I.bk) hP' ht hc TB.gP bP fun c' ctv h' tk hx hge hlt hrec htb => ?_
    obtain ⟨c2, oc, vs, t, e2, hoc, hd, hv⟩ := hrec
    cases e2
    have nC : H c' = none := I.hok.fresh hge
    have I1 := inv_table (q := X.env.qual ++ "<lambda>") (t' := tk) (more := #[rawInt pos.line, rawInt pos.col, .ref c']) (h' := h') I hP hx htb hge ⟨oc, vs, t, hoc, hd, hv⟩
    have hE : ExtN H (upd (upd H P (.tbl (ps ++ #[rawInt pos.line, rawInt pos.col, .ref c']))) c' (CodeO c' (X.env.qual ++ "<lambda>"))) := fun b o e n => by
      rw [upd_ne (ne_of_none e nC), upd_ne (fun z => n ps (Option.some.inj (e.symm.trans (by rw [z]; exact hP))))]
      exact e
    have eL : (ps ++ #[rawInt pos.line, rawInt pos.col, .ref c']).toList = ps.toList ++ [rawInt pos.line, rawInt pos.col, .ref c'] := by simp
    refine h h'.objs.size c' _ _ (lay I1) hE (fun p hp => ?_) ?_ upd_same
    · by_cases hb : p.1 = P
      · rw [hu p hp hb, hb]
        refine ⟨_, by rw [upd_ne (ne_of_none hP nC), upd_same], by rw [eL]; exact PySem.TriplesOk_snoc _ _ _ _ ht, fun p' cv hcv => ?_⟩
        rw [eL] at hcv
        rcases among_app _ ht hcv with z | z
        · obtain ⟨c0, e1, e2⟩ := ha p' cv z
          exact ⟨c0, e1, hE _ _ e2 codeO_ne⟩
        · exact ⟨c', z, upd_same⟩
      · obtain ⟨ps', a1, a2, a3⟩ := hT p hp
        refine ⟨ps', by rw [upd_ne (ne_of_none a1 nC), upd_ne hb]; exact a1, a2, fun p' cv hcv => ?_⟩
        obtain ⟨c0, e1, e2⟩ := a3 p' cv hcv
        exact ⟨c0, e1, hE _ _ e2 codeO_ne⟩
    · have z := I1.hok.fresh (Nat.le_refl h'.objs.size)
      exact z
  | some cv =>
    obtain ⟨c', e, hco⟩ := ha pos cv hc
    subst e
    refine PySem.W.kla_makeFunctionHit (mg := X.mg) (c := c) (P := P) (ps := ps) okc I.ok.glob (I.mod.glob.keeps I.bk) hcode (TB.code.keeps I.bk) hP' ht hc bP fun ctv h' tk hx hsz => ?_
    have I1 : Inv X pins σ H { s with heap := h', toks := tk } := I.kept fun b o e => hx b o e
    exact h h'.objs.size c' H _ (lay I1) (ExtN.refl H) hT (I1.hok.fresh (Nat.le_refl h'.objs.size)) hco
/-- lambda ..: .. as a value, with what it has captured -/
theorem pe_cloV {T : List (Addr × Str)} {c P : Addr} {params : Arguments} {body : Expr} {scope : Scope} {pos : Pos} (TB : TabB X.base X.mg c P) (hcode : X.env.code = .ref c)
    (hm : (P, X.env.qual ++ "<lambda>") ∈ T) (hu : ∀ p ∈ T, p.1 = P → p.2 = X.env.qual ++ "<lambda>") (hfr : ∀ y ∈ scope.names, y.2 = .free → ∃ c, X.env.cells.lookup y.1 = some c) (hdef : defaultsOf params X.env = ([], []) := by rfl) :
    PE X (.Lambda params body scope pos) (fun σ H Q => Tabs T H ∧ ∀ f c' H1, ExtN H H1 → Tabs T H1 → H1 f = none → H1 c' = some (CodeO c' (X.env.qual ++ "<lambda>")) → Q (.ref f) (upd H1 f (CloV f c' (X.env.qual ++ "<lambda>") params body scope (cloFrom X.env.cells scope.names [])))) :=
  ⟨fun pins s σ H Q I h => cloV_laid I TB hcode hm hu h.1 hdef hfr fun f c' H1 s' J e1 e2 e3 e4 => ⟨.ref f, _, J, rfl, h.2 f c' H1 e1 e2 e3 e4⟩⟩
end
/-- such a lambda of one parameter, over a base that knows it, its code and its cells -/
theorem cloAt_of {X : Cx} {σ : L2.St} {H : Hp} {L : List Addr} {B : Heap} (kb : Known X σ H L B) {f c' : Addr} {q y : Str} {params : Arguments} {body : Expr} {scope : Scope} {xs : List Str} {vs : List V}
    (hf : H f = some (CloV f c' q params body scope (cloFrom X.env.cells scope.names []))) (hc : H c' = some (CodeO c' q)) (mf : f ∈ L) (mc : c' ∈ L) (kind : scope.kind = .function) (co : scope.isCoroutine = false) (gen : scope.isGenerator = false)
    (own : ∀ z ∈ scope.names, z.2 ≠ .cell) (par : scope.names.lookup y = some .local) (hfr : ∀ z ∈ scope.names, z.2 = .free → ∃ c, X.env.cells.lookup z.1 = some c) (inj : ∀ x z c, X.env.cells.lookup x = some c → X.env.cells.lookup z = some c → x = z)
    (caps : ∀ (i : Nat) (x : Str) (v : V), xs[i]? = some x → vs[i]? = some v → scope.names.lookup x = some .free ∧ ∃ j : Nat, X.N[j]? = some x ∧ σ[j]? = some (some v) ∧ X.env.scope.names.lookup x = some .cell)
    (len : xs.length = vs.length) (bind : ∀ (pm ctv u : Value), bindArgs (PySem.W.kla_fn "<lambda>" q params body scope (cloFrom X.env.cells scope.names []) pm (.ref c') ctv) ⟨[u], []⟩ = pure [(y, u)]) :
    CloAt B f c' q params body scope (cloFrom X.env.cells scope.names []) y xs vs where
  fn := kb.ext f mf _ hf
  code := kb.ext c' mc _ hc
  kind := kind
  co := co
  gen := gen
  own := own
  par := par
  inj := fun x z c e1 e2 => inj x z c (NdefX.clo_cm hfr e1) (NdefX.clo_cm hfr e2)
  has := fun x e => by
    have m := PySem.mem_of_lookup e
    obtain ⟨c, hc⟩ := hfr _ m rfl
    exact ⟨c, NdefX.clo_has hfr m hc⟩
  cells := fun x c e => kb.any x c (NdefX.clo_cm hfr e)
  caps := fun i x v e1 e2 => by
    obtain ⟨h1, j, h2, h3, h4⟩ := caps i x v e1 e2
    have m := PySem.mem_of_lookup h1
    obtain ⟨c, hc⟩ := hfr _ m rfl
    obtain ⟨u, r, ic⟩ := kb.cell j x v c h2 h3 h4 hc
    exact ⟨c, u, NdefX.clo_has hfr m hc, h1, r, ic⟩
  len := len
  bind := bind
end L2
namespace L2
open PySem PySem.Spec PyProof.Rows LamX
/-- a cell that a frame has left behind, with what it holds -/
def CellO (c : Addr) (v : V) : HO := .ext fun h => ∃ u, RelV v u ∧ h.IsCell c (some u)
theorem cellO_ok {P : Program} {w : World} {H : Hp} {h : Heap} {c : Addr} {v : V} {u : Value} (r : RelV v u) (e : h.IsCell c (some u)) : ObjOk P w H h c (CellO c v) := by
  obtain ⟨o, ho, hd⟩ := e
  exact ⟨⟨u, r, o, ho, hd⟩, ⟨o, ho⟩, fun h h' ⟨u, r, o, ho, hd⟩ k => ⟨u, r, o, k _ ho, hd⟩⟩
/-- a def that ends at once by returning e: the cell of one of its parameters is tracked behind it -/
theorem fn_ret {P : Program} {w : World} {K : PySem.W.Frag} {mg : Str → Option Value} {base : Heap} {k : Nat} {f : Addr} {name qual : Str} {params : Arguments} {e : Expr} {pos : Pos} {scope : Scope} {dV kV doc pm cdv ct oc : Value} {an od : Option Addr}
    {osl : Array (Option Value)} {N ps : List Str} {sp : Sp} {i : Nat} {y : Str} (lk : K.lookup f = some ⟨oc, od, .func (PySem.W.fnOf name qual params [.Return (some e) pos] scope dV kV doc pm an cdv ct), osl⟩) (hcd : PySem.W.codeIn K cdv qual = true) (S : FnScope N ps scope)
    (hy : N[i]? = some y) (cy : scope.names.lookup y = some .cell) (len : ∀ vs H Q E, sp vs H Q E → vs.length = ps.length)
    (hbody : ∀ (A : Around) (outer : List Env) (s : Shared) (H : Hp) (vs : List V) (Q : VK) (E : XK), Room k (A.deeper (envOfC qual scope s.heap.objs.size f cdv)) → sp vs H Q E →
      ∃ te v0, (start N vs)[i]? = some (some v0) ∧ PE (cxOf CX0 P w K mg base N qual scope f cdv A outer s H E).nox e te ∧ te (start N vs) H fun v H' => ∀ c, (cxOf CX0 P w K mg base N qual scope f cdv A outer s H E).env.cells.lookup y = some c → H c = none → H' c = none → Q v (upd H' c (CellO c v0))) :
    FnOk P w K mg base CX0 (k + 1) f (PySem.W.fnOf name qual params [.Return (some e) pos] scope dV kV doc pm an cdv ct) ps sp := by
  refine ⟨len, fun A outer s H args us vs Q E hr e0 hb r hsp => ?_⟩
  have many := len _ _ _ _ hsp
  have inK : K.In s.heap := e0.mod.kin.keeps fun b o there => (e0.bs b o there).1
  have free : s.heap.NoLimit := e0.mod.nolimit.keeps fun b o there => (e0.bs b o there).1
  have each : ∀ z ∈ ps.zip us, scope.names.lookup z.1 = some .local ∨ (scope.names.lookup z.1 = some .cell ∧ ((cellsFrom (s.heap.objs.size + 1) scope.names []).lookup z.1).isSome = true) := fun z hz =>
    (S.par z.1 (List.of_mem_zip (a := z.1) (b := z.2) hz).1).imp id fun q => ⟨q, PySem.W.cellsFrom_some _ _ _ (.inl q)⟩
  refine codeAny_call_function hr.depth (inK _ _ lk) rfl S.co S.gen rfl (PySem.W.codeRec_of inK hcd) (hb _ _ _ _ ?_)
  refine wpAny_newFunctionEnv_cells S.kind each fun env same s1 x => ?_
  subst same
  refine ⟨free.keeps x.toInCall.keep, codeAny_func ?_⟩
  obtain ⟨te, v0, hv0, he, hq⟩ := hbody A outer s H vs Q E (hr.deeper _) hsp
  have I : Inv (cxOf CX0 P w K mg base N qual scope f cdv A outer s H E) [] (start N vs) H s1 := inv_start S hr.hd e0 many r x
  obtain ⟨R, hR⟩ : ∃ R : Flow → Shared → Prop, R = fun (fl : Flow) s' => ∃ u v H', fl = Flow.ret u ∧ Inv (cxOf CX0 P w K mg base N qual scope f cdv A outer s H E) [] (start N vs) H' s' ∧ RelV v u ∧ ∀ c, (cxOf CX0 P w K mg base N qual scope f cdv A outer s H E).env.cells.lookup y = some c → H c = none → H' c = none → Q v (upd H' c (CellO c v0)) := ⟨_, rfl⟩
  have run : wpAny (model P w) (cxOf CX0 P w K mg base N qual scope f cdv A outer s H E).A (execs [.Return (some e) pos] (cxOf CX0 P w K mg base N qual scope f cdv A outer s H E).env) R (cxOf CX0 P w K mg base N qual scope f cdv A outer s H E).xe s1 := by
    refine wpAny_execs_cons (thn (Q := R) (wpAny_Return_some (thn (he.nox.run [] s1 _ H _ I hq) fun u s2 ⟨v, H1, I1, r1, q1⟩ => ?_)) fun fl s2 z => ?_)
    · rw [hR]
      exact ⟨u, v, H1, rfl, I1, r1, q1⟩
    · rw [hR] at z
      obtain ⟨u, v, H1, rfl, z⟩ := z
      rw [hR]
      exact ⟨u, v, H1, rfl, z⟩
  refine wpAny_mono run (fun fl s' hs => ?_) fun e s' hs => hs
  rw [hR] at hs
  obtain ⟨u, v, H', rfl, J, rv, q⟩ := hs
  obtain ⟨m, _, look⟩ := J.loc
  obtain ⟨u0, r0, z⟩ := look i y v0 hy hv0 (.inr (.inl cy))
  rcases z with ⟨z, _⟩ | ⟨_, cc, ecc, hcell⟩
  · have z : scope.names.lookup y = some .local := z
    rw [cy] at z
    cases z
  have above : s.heap.objs.size ≤ cc := J.ok.cab y cc rfl ecc
  have off : H cc = none := e0.hok.fresh above
  have off' : H' cc = none := J.freeC y cc ecc
  refine ⟨v, upd H' cc (CellO cc v0), J.os, J.bare, ⟨J.base.keep, J.base.slot, fun b o e n x => ?_, J.base.there, fun b xs e => ?_, fun b o t e => ?_, fun b t e => ?_⟩, fun b o e => ?_, rv, q cc ecc off off'⟩
  · by_cases hb : b = cc
    · rw [hb] at e
      exact absurd (Heap.lt_size e) (Nat.not_lt.mpr above)
    · rw [upd_ne hb]
      exact J.base.free b o e n x
  · rw [upd_ne (ne_of_none e off)]
    exact J.base.tups b xs e
  · rw [upd_ne (ne_of_none e off)]
    exact J.base.frzs b o t e
  · rw [upd_ne (ne_of_none e off)]
    exact J.base.tbls b t e
  · by_cases hb : b = cc
    · subst hb
      rw [upd_same] at e
      obtain rfl := Option.some.inj e
      exact cellO_ok r0 hcell
    · rw [upd_ne hb] at e
      refine (J.hok b o e).stay (fun c u _ z => z) (fun c z => ?_) (fun c xs z => ?_)
      · rw [upd_ne (ne_of_none z off')]
        exact z
      · rw [upd_ne (ne_of_none z off')]
        exact z
/-- a lambda of one parameter with one captured cell, over a base that knows it, its code and that cell -/
theorem cloAt_cell {X : Cx} {σ : L2.St} {H : Hp} {L : List Addr} {B : Heap} (kb : Known X σ H L B) {f c' c : Addr} {q y z : Str} {v : V} {params : Arguments} {body : Expr} {scope : Scope} {cl : List (Str × Addr)}
    (hf : H f = some (CloV f c' q params body scope cl)) (hc : H c' = some (CodeO c' q)) (hv : H c = some (CellO c v)) (mf : f ∈ L) (mc : c' ∈ L) (mv : c ∈ L) (one : ∀ x a, cl.lookup x = some a → x = z ∧ a = c) (has : cl.lookup z = some c) (kind : scope.kind = .function) (co : scope.isCoroutine = false) (gen : scope.isGenerator = false)
    (own : ∀ z ∈ scope.names, z.2 ≠ .cell) (par : scope.names.lookup y = some .local) (fr : ∀ x, scope.names.lookup x = some .free → x = z) (isF : scope.names.lookup z = some .free) (bind : ∀ (pm ctv u : Value), bindArgs (PySem.W.kla_fn "<lambda>" q params body scope cl pm (.ref c') ctv) ⟨[u], []⟩ = pure [(y, u)]) :
    CloAt B f c' q params body scope cl y [z] [v] := by
  obtain ⟨u, r, ic⟩ := kb.ext c mv _ hv
  have caps : ∀ (i : Nat) (x : Str) (w : V), ([z] : List Str)[i]? = some x → ([v] : List V)[i]? = some w → ∃ c u, cl.lookup x = some c ∧ scope.names.lookup x = some .free ∧ RelV w u ∧ B.IsCell c (some u) := fun i x w e1 e2 => by
    match i, e1, e2 with
    | 0, e1, e2 =>
      cases e1
      cases e2
      exact ⟨c, u, has, isF, r, ic⟩
  exact { fn := kb.ext f mf _ hf, code := kb.ext c' mc _ hc, kind := kind, co := co, gen := gen, own := own, par := par, inj := fun x1 x2 a h1 h2 => (one _ _ h1).1.trans (one _ _ h2).1.symm, has := fun x h => ⟨c, by rw [fr x h]; exact has⟩, cells := fun x a h => ⟨some u, by rw [(one x a h).2]; exact ic⟩, caps := caps, len := rfl, bind := bind }
end L2
namespace L2
open PySem PySem.Spec PyProof.Rows
/-- of a callee that raises nothing -/
theorem passN {X : Cx} : Passes (L2.CX X.prog X.w) X E0 := fun _ _ _ _ _ _ _ h => (cx_false h).elim
end L2
namespace TW
open PySem PySem.Spec PyProof.Rows L2
abbrev sRI : Stmt := inClass (top 53) 0
/-- a new run: the things first, then a place for each work, whose runs raise nothing -/
def spRI (K : PySem.W.Frag) (CR CS CT : Addr) (spC : Sp) : Sp := fun vs H Q _ => ∃ (r dx sh : Addr) (S : SS) (m : Nat), vs = [.ref r, .ref sh] ∧ H r = some (.ins CR dx []) ∧ S.many = (m : Int) ∧ m ≤ 1000 ∧
  spFirst K CS CT [.ref sh] (upd H r (.ins CR dx [("shop", .ref sh)])) (fun tv G => G r = some (.ins CR dx [("shop", .ref sh)]) ∧ ShopAt K CS G sh S ∧ sh ≠ r ∧
    ∀ D, upd G r (.ins CR dx [("shop", .ref sh), ("things", tv)]) D = none → ∃ Pv : Nat → Hp → List V → Prop, Pv 0 (upd (upd G r (.ins CR dx [("shop", .ref sh), ("things", tv)])) D (.lst [])) [] ∧
      (∀ i H1 acc, i < m → Pv i H1 acc → H1 D = some (.lst acc) → ∀ t, H1 t = none → spC [.ref sh, .int (i : Nat), .ref t] (upd H1 t (.tup [])) (fun pl H2 => H2 D = some (.lst acc) ∧ Pv (i + 1) (upd H2 D (.lst (acc ++ [pl]))) (acc ++ [pl])) E0) ∧
      (∀ H1 acc, acc.length = m → Pv m H1 acc → H1 D = some (.lst acc) → H1 r = some (.ins CR dx [("shop", .ref sh), ("things", tv)]) ∧
        ∀ l, upd H1 r (.ins CR dx [("shop", .ref sh), ("things", tv), ("places", .ref D)]) l = none → Q .non (upd (upd (upd H1 r (.ins CR dx [("shop", .ref sh), ("things", tv), ("places", .ref D)])) l (.lst [])) r (.ins CR dx (rF (.ref sh) tv (.ref D) (.ref l)))))) E0
section
variable {P : Program} {w : World} {K : PySem.W.Frag} {mg : Str → Option Value} {base : Heap} {CR CS CT : Addr} {N : Nat}
theorem scRI : FnScope ["self", "shop", "k"] ["self", "shop"] (defScope sRI) := ⟨rfl, rfl, rfl, by decide +kernel, rfl, by decide +kernel, by decide +kernel⟩
theorem ok_RI {f fF fC : Addr} {fd fdF fdC : FuncData} {spC : Sp} (F : Fun K "__init__" "Run.__init__" sRI f fd) (B : Blt mg) (X : RTxt K CR) (XS : STxt K CS)
    (GF : FnOk P w K mg base CX0 N fF fdF ["shop"] (spFirst K CS CT)) (mF : mg "first_things" = some (.ref fF)) (kF : PySem.W.keepIn K (.ref fF) = true) (bF : Binds K fdF ["shop"] [])
    (GC : FnOk P w K mg base (L2.CX P w) N fC fdC ["shop", "k", "answers"] spC) (mC : mg "come" = some (.ref fC)) (kC : PySem.W.keepIn K (.ref fC) = true) (bC : Binds K fdC ["shop", "k", "answers"] []) :
    FnOk P w K mg base CX0 (N + 1) f fd ["self", "shop"] (spRI K CR CS CT spC) := by
  refine F.ok scRI (fun vs H Q E h => ?_) (fun cdv A outer s H vs Q E hr h => ?_)
  · obtain ⟨r, dx, sh, S, m, rfl, _⟩ := h
    rfl
  · obtain ⟨r, dx, sh, S, m, rfl, ho, hm, few, h⟩ := h
    refine ⟨_, pss_cons (ps_fld (pv 0) (pv 1) rfl)
      (pss_cons (ps_fld (pv 0) (pe_call (fnOk_up0 GF) hr rfl mF kF bF .nil pass0 (pa_cons (pv 1) pa_nil)) rfl)
      (pss_cons (ps_fld (pv 0) (pe_lc (own := [("k", 2)]) rfl scRI.nd (pi_range1 (by rfl) B.range (pa_cons (pe_fld (pv 1) rfl) pa_nil)) (blkOk_by (N := ["self", "shop", "k"]) (sc := defScope sRI) (by decide +kernel))
        (fun _ _ _ _ _ => pg_name (i := 2) scRI.nd rfl (Or.inl rfl)) (fun _ _ _ _ _ => pts_nil)
        (te := tCall (spUp spC) [] E0 (tCons (tVar 1) (tCons (tVar 2) (tCons (tTup tNil) tNil)))) (fun _ _ _ _ _ => by exact pe_call (fnOk_up GC) hr rfl mC kC bC .nil passN (pa_cons (pv 1) (pa_cons (pv 2) (pa_cons (pe_tup pa_nil) pa_nil))))) rfl)
      (pss_one (ps_fld (pv 0) (pe_lst pa_nil) rfl)))), ?_⟩
    refine ⟨_, rfl, _, rfl, r, CR, dx, _, rfl, ho, X.cl, X.shop, (by show 0 < 1000; decide), ?_⟩
    rw [rF_make0]
    refine ⟨_, rfl, _, _, h, fun tv G q => ?_⟩
    obtain ⟨o1, hS, ne, k⟩ := q
    refine ⟨_, rfl, r, CR, dx, _, rfl, o1, X.cl, X.things, (by show 1 < 1000; decide), ?_⟩
    rw [rF_make1]
    have hob : upd G r (.ins CR dx [("shop", .ref sh), ("things", tv)]) sh = _ := (upd_ne ne).trans hS.ob
    have em : S.many.toNat = m := by
      rw [hm]
      rfl
    refine ⟨_, rfl, sh, CS, S.dx, _, _, rfl, hob, XS.cl, XS.many, sF_get4, S.many, rfl, by rw [hm]; omega, by rw [hm]; omega, fun D hD => ?_⟩
    rw [em]
    obtain ⟨Pv, p0, pst, pen⟩ := k D hD
    refine lc_range (fun i H' => ∃ acc : List V, acc.length = i ∧ Pv i H' acc ∧ H' D = some (.lst acc)) ⟨[], rfl, p0, upd_same⟩ (fun i H' hi p => ?_) (fun H' p => ?_)
    · obtain ⟨acc, la, pp, hd⟩ := p
      refine ⟨rfl, ?_⟩
      unfold tYes
      dsimp only
      refine iteT ?_
      refine ⟨_, rfl, _, rfl, small_sz (n := 0) (by decide), fun t ht => ?_⟩
      have z := pst i H' acc hi pp hd t ht
      rw [← Int.zero_add (i : Int)] at z
      refine ⟨_, _, z, fun y H4 q => ?_, fun _ _ _ z => z⟩
      exact ⟨acc, q.1, Nat.lt_of_lt_of_le (by rw [la]; omega) (small_sz (n := 1001) (by decide)), acc ++ [y], by rw [List.length_append, la]; rfl, q.2, upd_same⟩
    · obtain ⟨acc, la, pp, hd⟩ := p
      obtain ⟨o5, q⟩ := pen H' acc la pp hd
      refine ⟨_, rfl, r, CR, dx, _, rfl, o5, X.cl, X.places, (by show 2 < 1000; decide), ?_⟩
      rw [rF_make2]
      refine ⟨small_sz (n := 0) (by decide), fun l hl => ?_⟩
      refine ⟨_, rfl, r, CR, dx, _, rfl, (upd_ne (ne_of_none upd_same hl)).trans upd_same, X.cl, X.done, (by show 3 < 1000; decide), ?_⟩
      rw [rF_make3]
      exact q l hl
end
end TW
namespace TW
open PySem PySem.Spec PyProof.Rows L2
abbrev sPairs : Stmt := top 52
abbrev s_outcome : Stmt := inClass (top 53) 11
def spPairs : Sp := fun vs H Q _ => ∃ (d : Addr) (kvs : List (Key × V)) (ks : List Str), vs = [.ref d] ∧ H d = some (.dK kvs) ∧ kvs.map (·.1) = ks.map Sum.inr ∧ ks.length < 64 ∧ ∀ (t : Addr) (H' : Hp) (xs : List V), Same H H' → H' t = some (.tup xs) → Q (.ref t) H'
theorem valV_mem {kvs : List (Key × V)} {k : Key} (h : k ∈ kvs.map (·.1)) : ∃ v, valV kvs k = some v := by
  induction kvs with
  | nil => cases h
  | cons p r ih =>
    by_cases e : p.1 = k
    · exact ⟨p.2, valV_pos e⟩
    · rw [List.map_cons, List.mem_cons] at h
      rcases h with h | h
      · exact absurd h.symm e
      · obtain ⟨v, hv⟩ := ih h
        exact ⟨v, by rw [valV_neg e]; exact hv⟩
section
variable {P : Program} {w : World} {K : PySem.W.Frag} {mg : Str → Option Value} {base : Heap} {CR CT CP : Addr} {n : Nat}
theorem scPairs : FnScope ["table", "name"] ["table"] (defScope sPairs) := ⟨rfl, rfl, rfl, by decide +kernel, rfl, by decide +kernel, by decide +kernel⟩
theorem ok_pairs {f : Addr} {fd : FuncData} (F : Fun K "in_pairs" "in_pairs" sPairs f fd) (B : Blt mg) : FnOk P w K mg base CX0 2 f fd ["table"] spPairs := by
  refine F.ok scPairs (fun vs H Q E h => ?_) (fun cdv A outer s H vs Q E hr h => ?_)
  · obtain ⟨d, kvs, ks, rfl, _⟩ := h
    rfl
  · obtain ⟨d, kvs, ks, rfl, hd, hk, few, k⟩ := h
    refine ⟨_, pss_one (ps_ret (pe_callTy call_tuple_of (by rfl) B.tuple (by decide +kernel) (pa_cons (pe_lc (own := [("name", 1)]) rfl scPairs.nd (pi_list (pe_callB (call_sortedD rfl) (by rfl) B.sorted (by decide +kernel) (pa_cons (pv 0) pa_nil))) (blkOk_by (N := ["table", "name"]) (sc := defScope sPairs) (by decide +kernel))
      (fun _ _ _ _ _ => pg_name (i := 1) scPairs.nd rfl (Or.inl rfl)) (fun _ _ _ _ _ => pts_nil) (te := tTup (tCons (tVar 1) (tCons (tDGet (tVar 0) (tVar 1)) tNil))) (fun _ _ _ _ _ => by exact pe_tup (pa_cons (pv 1) (pa_cons (pe_dget (hu_of hr) (pv 0) (pv 1) (fun _ _ => rfl)) pa_nil)))) pa_nil))), ?_⟩
    refine ⟨_, rfl, d, kvs, ks, rfl, .inl hd, hk, few, fun ys p perm srt hp => ?_⟩
    refine ⟨p, rfl, ⟨_, SqL.of upd_same⟩, fun D hD => ?_⟩
    have s1 := same_new (o := .lst (ys.map V.str)) hp
    have s2 := same_new (o := .lst []) hD
    refine lc_list (K := K) (a := p) (xs := ys.map V.str) (fun i H' => Same (upd H p (.lst (ys.map V.str))) H' ∧ ∃ acc, acc.length = i ∧ H' D = some (.lst acc)) ⟨s2, [], rfl, upd_same⟩ (fun i H' _ z => SqL.of (z.1 _ _ upd_same)) (fun i x H' e z => ?_) (fun H1 z => ?_)
    · obtain ⟨sm, acc, la, hd1⟩ := z
      obtain ⟨nm, hn, rfl⟩ : ∃ nm, ys[i]? = some nm ∧ x = V.str nm := by
        rw [List.getElem?_map] at e
        obtain ⟨z, h1, h2⟩ := Option.map_eq_some_iff.mp e
        exact ⟨z, h1, h2.symm⟩
      have li := (List.getElem?_eq_some_iff.mp hn).1
      have ly : ys.length < 64 := by rw [perm.length_eq]; exact few
      obtain ⟨v, hv⟩ : ∃ v, valV kvs (Sum.inr nm) = some v := valV_mem (by rw [hk]; exact List.mem_map.mpr ⟨nm, perm.mem_iff.mp (List.mem_of_getElem? hn), rfl⟩)
      refine ⟨rfl, ?_⟩
      unfold tYes
      dsimp only
      refine iteT ?_
      refine ⟨_, rfl, _, rfl, _, rfl, d, v, rfl, ?_, two_sz, fun t ht => ?_⟩
      · have z := DGet.k (k := Sum.inr nm) (sm _ _ (s1 _ _ hd))
        rw [hv] at z
        exact z
      · have st := same_new (o := .tup [.str nm, v]) ht
        refine ⟨acc, st _ _ hd1, ?_, fun b o e => ?_, acc ++ [.ref t], by rw [List.length_append, la]; rfl, upd_same⟩
        · rw [la]
          exact Nat.lt_of_lt_of_le (Nat.lt_trans li ly) (small_sz (n := 64) (by decide))
        · rw [upd_ne (ne_of_none e hD)]
          exact st _ _ (sm _ _ e)
    · obtain ⟨sm, acc, la, hd1⟩ := z
      exact ⟨D, acc, rfl, .inl ⟨SqL.of hd1, fun t ht => k t _ acc ((s1.trans sm).trans (same_new ht)) upd_same⟩⟩
def spOutcome (K : PySem.W.Frag) (CR CT CP : Addr) : Sp := fun vs H Q _ => ∃ (r : Addr) (R : RS) (k1 k2 k3 : List Str), vs = [.ref r] ∧ RunAt K CR CT CP H r R ∧ R.places.length ≤ 1000 ∧ R.T.cells.map (·.1) = k1.map Sum.inr ∧ k1.length < 64 ∧ R.T.holders.map (·.1) = k2.map Sum.inr ∧ k2.length < 64 ∧ R.T.rows.map (·.1) = k3.map Sum.inr ∧ k3.length < 64 ∧
  ∀ (t e a b c ww : Addr) (H' : Hp), Same H H' → H' t = some (.tup [.ref e, .ref a, .ref b, .ref c, .ref ww]) → H' e = some (.tup (R.places.map PS.fin)) → H' ww = some (.tup (R.places.map fun x => V.ref x.tw)) → Q (.ref t) H'
theorem sc_outcome : FnScope ["self", "place", "words", "things"] ["self"] (defScope s_outcome) := ⟨rfl, rfl, rfl, by decide +kernel, rfl, by decide +kernel, by decide +kernel⟩
theorem ok_outcome {f fE fP : Addr} {fd fdE fdP : FuncData} (F : Fun K "outcome" "Run.outcome" s_outcome f fd) (B : Blt mg) (X : RTxt K CR) (XP : PTxt K CP) (XT : TTxt K CT) (GE : FnOk P w K mg base CX0 1 fE fdE ["self"] (spEnds K CR CT CP)) (hE : Meth K CR "ends" fE) (bE : Binds K fdE ["self"] [])
    (GP : FnOk P w K mg base CX0 2 fP fdP ["table"] spPairs) (mP : mg "in_pairs" = some (.ref fP)) (kP : PySem.W.keepIn K (.ref fP) = true) (bP : Binds K fdP ["table"] []) : FnOk P w K mg base CX0 3 f fd ["self"] (spOutcome K CR CT CP) := by
  refine F.ok sc_outcome (fun vs H Q E h => ?_) (fun cdv A outer s H vs Q E hr h => ?_)
  · obtain ⟨r, R, k1, k2, k3, rfl, _⟩ := h
    rfl
  · obtain ⟨r, R, k1, k2, k3, rfl, hR, few, c1, l1, c2, l2, c3, l3, hq⟩ := h
    have hr1 : Room 1 _ := hr.mono (by omega)
    refine ⟨_, pss_cons (ps_set (i := 2) sc_outcome.nd rfl (.inl rfl) (pe_callTy call_tuple_of (by rfl) B.tuple (by decide +kernel) (pa_cons (pe_lc (own := [("place", 1)]) rfl sc_outcome.nd (pi_list (pe_fld (pv 0) rfl)) (blkOk_by (N := ["self", "place", "words", "things"]) (sc := defScope s_outcome) (by decide +kernel))
        (fun _ _ _ _ _ => pg_name (i := 1) sc_outcome.nd rfl (Or.inl rfl)) (fun _ _ _ _ _ => pts_nil) (te := tFld K (tVar 1) "words") (fun _ _ _ _ _ => by exact pe_fld (pv 1) rfl)) pa_nil)))
      (pss_cons (ps_set (i := 3) sc_outcome.nd rfl (.inl rfl) (pe_fld (pv 0) rfl))
      (pss_one (ps_ret (pe_tup (pa_cons (pe_meth0 (pv 0) X.cl hE GE hr1 bE .nil pass0) (pa_cons (pe_call GP hr rfl mP kP bP .nil pass0 (pa_cons (pe_fld (pv 3) rfl) pa_nil)) (pa_cons (pe_call GP hr rfl mP kP bP .nil pass0 (pa_cons (pe_fld (pv 3) rfl) pa_nil))
        (pa_cons (pe_call GP hr rfl mP kP bP .nil pass0 (pa_cons (pe_fld (pv 3) rfl) pa_nil)) (pa_cons (pv 2) pa_nil))))))))), ?_⟩
    have nE : (rF (.ref R.sh) (.ref R.th) (.ref R.pl) (.ref R.dn)).lookup ("ends" : Str) = none := rF_no (by decide +kernel) (by decide +kernel) (by decide +kernel) (by decide +kernel)
    refine ⟨_, rfl, r, CR, R.dx, _, _, rfl, hR.ob, X.cl, X.places, rF_get2, R.pl, rfl, ⟨_, SqL.of hR.p⟩, fun D hD => ?_⟩
    refine lc_list (K := K) (a := R.pl) (xs := R.places.map fun x => V.ref x.p) (fun i H' => Same H H' ∧ H' D = some (.lst ((R.places.take i).map fun x => V.ref x.tw))) ⟨same_new hD, upd_same⟩ (fun i H' _ p => SqL.of (p.1 _ _ hR.p)) (fun i x H' e p => ?_) (fun H1 p => ?_)
    · rw [List.getElem?_map] at e
      cases q : R.places[i]? with
      | none =>
        rw [q] at e
        cases e
      | some y =>
        rw [q] at e
        obtain rfl := (Option.some.inj e).symm
        have hP := (hR.e y (List.mem_of_getElem? q)).same p.1
        refine ⟨rfl, ?_⟩
        unfold tYes
        dsimp only
        refine iteT ?_
        refine ⟨_, rfl, y.p, CP, y.dp, _, _, rfl, hP.ob, XP.cl, XP.words, pF_get3, _, p.2, ?_, fun b o z => ?_, ?_⟩
        · rw [List.length_map, List.length_take]
          exact Nat.lt_of_lt_of_le (Nat.lt_succ_of_le (Nat.le_trans (Nat.min_le_right _ _) few)) (small_sz (by decide))
        · rw [upd_ne (ne_of_none z hD)]
          exact p.1 b o z
        · rw [upd_same, take_one q, List.map_append]
          rfl
    · have z := p.2
      rw [List.length_map, List.take_length] at z
      refine ⟨D, _, rfl, .inl ⟨SqL.of z, fun tw htw => ?_⟩⟩
      have s2 := p.1.trans (same_new (o := .tup (R.places.map fun x => V.ref x.tw)) htw)
      have R2 := hR.same s2
      refine ⟨_, rfl, r, CR, R.dx, _, _, rfl, R2.ob, X.cl, X.things, rF_get1, ?_⟩
      refine ⟨_, rfl, r, R.dx, _, rfl, R2.ob, nE, r, R, rfl, R2, few, fun te H3 hte s3 e3 => ?_⟩
      have T3 := R2.t.same s3
      refine ⟨_, rfl, R.th, CT, R.T.dx, _, _, rfl, T3.ob, XT.cl, XT.cells, tF_get0, R.T.cd, R.T.cells, k1, rfl, T3.c, c1, l1, fun ta H4 xs s4 e4 => ?_⟩
      have T4 := T3.same s4
      refine ⟨_, rfl, R.th, CT, R.T.dx, _, _, rfl, T4.ob, XT.cl, XT.holders, tF_get1, R.T.hd, R.T.holders, k2, rfl, T4.h, c2, l2, fun tb H5 ys s5 e5 => ?_⟩
      have T5 := T4.same s5
      refine ⟨_, rfl, R.th, CT, R.T.dx, _, _, rfl, T5.ob, XT.cl, XT.rows, tF_get2, R.T.rd, R.T.rows, k3, rfl, T5.r, c3, l3, fun tc H6 zs s6 e6 => ?_⟩
      have s36 := (s4.trans s5).trans s6
      refine ⟨_, rfl, small_sz (n := 5) (by decide), fun t ht => ?_⟩
      have st := same_new (o := .tup [.ref te, .ref ta, .ref tb, .ref tc, .ref tw]) ht
      exact hq t te ta tb tc tw _ ((((s2.trans s3).trans s36)).trans st) upd_same (st _ _ (s36 _ _ e3)) (st _ _ (s36 _ _ (s3 _ _ upd_same)))
end
end TW
namespace L2
open PySem PySem.Spec PyProof.Rows
/-- t + u, any tuples: what holds its items -/
theorem op_catU {X : Cx} : OpR X (binaryOp .Add) (fun x y H Q => ∃ a b xs ys, x = .ref a ∧ y = .ref b ∧ SqT X.K H a xs ∧ SqT X.K H b ys ∧ xs.length + ys.length ≤ sizeLine ∧ ∀ t G, Same H G → SqT X.K G t (xs ++ ys) → Q (.ref t) G) := by
  intro pins s σ H x y v u Q I rx ry h
  obtain ⟨a, b, xs, ys, ex, ey, ha, hb, hz, k⟩ := h
  refine op_catT2 pins s σ H x y v u Q I rx ry ⟨a, b, xs, ys, ex, ey, ha, hb, hz, fun e => ?_, fun _ e => ?_, fun _ _ p hp => ?_⟩
  · exact k b H (Same.refl _) (by rw [e]; exact hb)
  · exact k a H (Same.refl _) (by rw [e, List.append_nil]; exact ha)
  · exact k p _ (fun c u z => by rw [upd_ne (ne_of_none z hp)]; exact z) (SqT.of upd_same)
end L2
namespace TW
open PySem PySem.Spec PyProof.Rows L2
abbrev sWishL : Stmt := top 70
/-- the wish of a row -/
def rowWish (ns : List (Key × V)) (r : Row) : List V := if r.kind = ("rest" : Str) then [.str "rest"] else .str r.kind :: .str r.name :: r.parts.map (partV ns)
def spWishL (K : PySem.W.Frag) : Sp := fun vs H Q _ => ∃ (x : V) (r : Row) (nd : Addr) (ns : List (Key × V)), vs = [x, .ref nd] ∧ RowAt K H x r ∧ H nd = some (.dK ns) ∧ (∀ k H', Same H H' → NumT K H' (noted ns k)) ∧ r.parts.length ≤ 100 ∧ ∀ t H', Same H H' → SqT K H' t (rowWish ns r) → Q (.ref t) H'
section
variable {P : Program} {w : World} {K : PySem.W.Frag} {mg : Str → Option Value} {base : Heap}
theorem scWishL : FnScope ["_law_row", "_law_notes", "_law_part"] ["_law_row", "_law_notes"] (defScope sWishL) := ⟨rfl, rfl, rfl, by decide +kernel, rfl, by decide +kernel, by decide +kernel⟩
theorem ok_wishL {f fT : Addr} {fd fdT : FuncData} (F : Fun K "_law_wish" "_law_wish" sWishL f fd) (B : Blt mg) (GT : FnOk P w K mg base CX0 1 fT fdT ["_law_row", "_law_notes"] (spTold K)) (mT : mg "_law_told" = some (.ref fT)) (kT : PySem.W.keepIn K (.ref fT) = true) (bT : Binds K fdT ["_law_row", "_law_notes"] []) :
    FnOk P w K mg base CX0 2 f fd ["_law_row", "_law_notes"] (spWishL K) := by
  refine F.ok scWishL (fun vs H Q E h => ?_) (fun cdv A outer s H vs Q E hr h => ?_)
  · obtain ⟨x, r, nd, ns, rfl, _⟩ := h
    rfl
  · obtain ⟨x, r, nd, ns, rfl, hR, hn, num, few, k⟩ := h
    refine ⟨_, pss_cons (ps_if (pt_cmpR op_eq (pe_ix ix_tup (pv 0) pe_int (fun _ _ => rfl)) pe_str (nomark _)) (pss_one (ps_ret (pe_tup (pa_cons pe_str pa_nil)))) pss_nil)
      (pss_one (ps_ret (pe_op op_catU (pe_tup (pa_cons (pe_ix ix_tup (pv 0) pe_int (fun _ _ => rfl)) (pa_cons (pe_ix ix_tup (pv 0) pe_int (fun _ _ => rfl)) pa_nil)))
        (pe_callTy call_tuple_of (by rfl) B.tuple (by decide +kernel) (pa_cons (pe_lc (own := [("_law_part", 2)]) (g := gName 2) rfl scWishL.nd (pi_tup (pe_ix ix_tup (pv 0) pe_int (fun _ _ => rfl))) (blkOk_by (N := ["_law_row", "_law_notes", "_law_part"]) (sc := defScope sWishL) (by decide +kernel))
          (fun _ _ _ _ _ => pg_name (i := 2) scWishL.nd rfl (Or.inl rfl)) (fun _ _ _ _ _ => pts_nil) (fun _ _ _ _ _ => pe_call GT hr rfl mT kT bT .nil pass0 (pa_cons (pv 2) (pa_cons (pv 1) pa_nil)))) pa_nil))))), ?_⟩
    obtain ⟨t, ps, xs, rfl, ht, hps, hl, each⟩ := hR.ex
    refine ⟨_, rfl, t, _, _, _, rfl, rfl, ht, atI_nat (j := 0) rfl, rfl, _, rfl, ?_⟩
    by_cases c : r.kind = ("rest" : Str)
    · rw [c, decide_eq_true rfl]
      refine iteT ⟨small_sz (n := 1) (by decide), fun p hp => k p _ (same_new hp) (SqT.of ?_)⟩
      unfold rowWish
      rw [if_pos c]
      exact upd_same
    · rw [decide_eq_false (fun z => c (by injection z))]
      refine iteF ?_
      refine ⟨_, rfl, t, _, _, _, rfl, rfl, ht, atI_nat (j := 0) rfl, _, rfl, t, _, _, _, rfl, rfl, ht, atI_nat (j := 1) rfl, two_sz, fun p hp => ?_⟩
      have s1 := same_new (o := .tup [.str r.kind, .str r.name]) hp
      have hp1 := (upd_same : (upd H p (.tup [.str r.kind, .str r.name])) p = _)
      generalize upd H p (.tup [.str r.kind, .str r.name]) = H1 at *
      refine ⟨_, rfl, t, _, _, _, rfl, rfl, seqT_same s1 ht, atI_nat (j := 2) rfl, ps, rfl, ⟨_, seqT_same s1 hps⟩, fun D hD => ?_⟩
      refine lc_it walk_tup (fun i H' => Same H1 H' ∧ H' D = some (.lst ((r.parts.take i).map (partV ns)))) ⟨same_new hD, upd_same⟩ (fun i H' _ z => seqT_same z.1 (seqT_same s1 hps)) ?_ ?_
      · rintro i y H' H'' hi ⟨z, hd⟩ ⟨rfl, hy⟩
        obtain ⟨q, hq⟩ : ∃ q, r.parts[i]? = some q := ⟨_, List.getElem?_eq_getElem (hl ▸ hi)⟩
        refine ⟨rfl, ?_⟩
        unfold tYes
        dsimp only
        refine iteT ?_
        have sz := s1.trans z
        refine ⟨_, rfl, _, rfl, y, q, nd, ns, rfl, (each i y q hy hq).tk (fun _ _ e => seqT_same sz e), sz _ _ hn, fun k => num k _ sz, ?_⟩
        refine ⟨_, hd, ?_, fun c o e => ?_, ?_⟩
        · rw [List.length_map, List.length_take]
          exact Nat.lt_of_le_of_lt (Nat.le_trans (Nat.min_le_right _ _) few) (Nat.lt_of_lt_of_le (by decide : 100 < 101) (small_sz (n := 101) (by decide)))
        · rw [upd_ne (ne_of_none e hD)]
          exact z c o e
        · rw [upd_same, take_one hq, List.map_append]
          rfl
      · rintro H' ⟨z, hd⟩
        rw [hl, List.take_length] at hd
        refine ⟨D, _, rfl, .inl ⟨SqL.of hd, fun u hu => ?_⟩⟩
        have s2 := z.trans (same_new (o := .tup (r.parts.map (partV ns))) hu)
        refine ⟨p, u, _, _, rfl, rfl, SqT.of (s2 _ _ hp1), SqT.of upd_same, ?_, fun t2 G s3 h3 => k t2 G ((s1.trans s2).trans s3) ?_⟩
        · rw [List.length_map]
          exact Nat.le_trans (by show 2 + r.parts.length ≤ 102; omega) (small_sz (n := 102) (by decide))
        · unfold rowWish
          rw [if_neg c]
          exact h3
end
end TW
namespace TW
open PySem PySem.Spec PyProof.Rows L2
/-- tuples stand as they stood -/
def TK (K : PySem.W.Frag) (H H' : Hp) : Prop := ∀ a xs, SqT K H a xs → SqT K H' a xs
theorem TK.of {K : PySem.W.Frag} {H H' : Hp} (e : Same H H') : TK K H H' := fun _ _ h => seqT_same e h
theorem TK.trans {K : PySem.W.Frag} {H H' H'' : Hp} (a : TK K H H') (b : TK K H' H'') : TK K H H'' := fun _ _ h => b _ _ (a _ _ h)
/-- what a work has come to with its answers: its wish, its end, its words -/
abbrev Beh := Hp → List V → V → V → List V → Prop
def BehS (K : PySem.W.Frag) (B : Beh) : Prop := ∀ H H' ans p e ws, TK K H H' → B H ans p e ws → B H' ans p e ws
/-- all but a hand, its dict and its list stand -/
def Keep3 (hd md wl : Addr) (G H : Hp) : Prop := ∀ b o, b ≠ hd → b ≠ md → b ≠ wl → G b = some o → H b = some o
/-- what stood ahead of a new hand stands, apart from it -/
def Base3 (H0 : Hp) (hd md wl : Addr) (G : Hp) : Prop := ∀ b o, H0 b = some o → b ≠ hd ∧ b ≠ md ∧ b ≠ wl ∧ G b = some o
theorem Base3.same {H0 : Hp} {hd md wl : Addr} {G H : Hp} (b : Base3 H0 hd md wl G) (k : Keep3 hd md wl G H) : Same H0 H := fun a o e =>
  let ⟨e1, e2, e3, e4⟩ := b a o e
  k a o e1 e2 e3 e4
/-- a work, called with a new hand, does as B says -/
def WorkOk (P : Program) (w : World) (K : PySem.W.Frag) (mg : Str → Option Value) (base : Heap) (C CS CH : Addr) (kw n : Nat) (S : SS) (g : Addr) (me : Nat) (Adm : List V → Prop) (B : Beh) : Prop :=
  ∃ s1, FnR P w K mg base (L2.CX P w) kw g s1 ∧ PySem.W.FnAt g base ∧ ∀ (sh an : Addr) (ans : List V) (hd dx md wl : Addr) (H0 G : Hp), ShopAt K CS H0 sh S → Base3 H0 hd md wl G → Adm ans → HandAt K C G hd dx (hs0 (me : Int) sh an ans md wl) →
    spUp s1 [.ref hd] G
      (fun v H2 => ∃ h, HandAt K C H2 hd dx h ∧ Keep3 hd md wl G H2 ∧ ((h.halted = true ∧ B H2 ans h.pend h.fin h.words) ∨ (h.halted = false ∧ Vn K H2 n v true ∧ ∀ H3 t, Same H2 H3 → H3 t = some (.tup [.str "told", v]) → B H3 ans h.pend (.ref t) h.words)))
      (fun cls d H2 => cls = .ref CH ∧ ∃ h, HandAt K C H2 hd dx h ∧ Keep3 hd md wl G H2 ∧ h.halted = true ∧ B H2 ans h.pend h.fin h.words)
section
variable {P : Program} {w : World} {K : PySem.W.Frag} {mg : Str → Option Value} {base : Heap} {C CS CP CH CV : Addr} {kw n : Nat}
theorem come_use {S : SS} {g : Addr} {me : Nat} {Adm : List V → Prop} {B : Beh} (hB : BehS K B) (hx : PySem.W.exmOne K (.ref CH) (.ref CH) = some true) (Wk : WorkOk P w K mg base C CS CH kw n S g me Adm B) {H : Hp} {sh an : Addr} {ans : List V} (hS : ShopAt K CS H sh S) (ha : SqT K H an ans)
    (hw : S.works[me]? = some (.ref g)) (adm : Adm ans) {Q : VK} {E : XK}
    (k : ∀ (pl dp tw : Addr) (pend fin : V) (words : List V) (H' : Hp), Same H H' → H pl = none → H' pl = some (.ins CP dp (pF (.ref an) pend fin (.ref tw))) → SqT K H' tw words → B H' ans pend fin words → Q (.ref pl) H') :
    spCome P w K mg base C CS CP CH CV kw n [.ref sh, .int (me : Int), .ref an] H Q E := by
  obtain ⟨s1, hF, hA, run⟩ := Wk
  refine ⟨sh, an, me, ans, S, g, s1, rfl, hS, ha, hw, hF, hA, fun hd dx md wl G n1 n2 n3 n4 sG hG => ?_⟩
  have old : ∀ {H2 : Hp}, Keep3 hd md wl G H2 → Same H H2 := fun {H2} kp b o e => kp b o (ne_of_none e n1) (ne_of_none e n3) (ne_of_none e n4) (sG b o e)
  have fin : ∀ (h : HS) (H2 : Hp) (fv : V), Same H H2 → (∀ H3, Same H2 H3 → B H3 ans h.pend fv h.words) → AfterP CP an Q { h with fin := fv } H2 := fun h H2 fv sm b pl dp tw G' p1 p2 _ _ _ s2 o1 o2 => by
    refine k pl dp tw h.pend fv h.words G' (sm.trans s2) ?_ o1 (SqT.of o2) (b G' s2)
    cases e : H pl with
    | none => rfl
    | some o =>
      rw [sm _ _ e] at p1
      cases p1
  obtain ⟨Q0, E0, z1, z2, z3⟩ := run sh an ans hd dx md wl H G hS (fun b o e => ⟨ne_of_none e n1, ne_of_none e n3, ne_of_none e n4, sG b o e⟩) adm hG
  refine ⟨Q0, E0, z1, fun v H2 q => ?_, fun cls d H2 q => ?_⟩
  · obtain ⟨h, hA2, kp, q⟩ := z2 v H2 q
    refine ⟨h, hA2, fun ht => ?_, fun hf => ?_⟩
    · rcases q with ⟨_, b⟩ | ⟨e, _⟩
      · exact fin h H2 h.fin (old kp) fun H3 s3 => hB _ _ _ _ _ _ (.of s3) b
      · rw [e] at ht
        cases ht
    · rcases q with ⟨e, _⟩ | ⟨_, vn, b⟩
      · rw [e] at hf
        cases hf
      · refine ⟨true, vn, fun H3 s3 => ⟨fun z => (nomatch z), fun _ t ht => ?_⟩⟩
        have s4 : Same H3 (upd H3 t (.tup [.str "told", v])) := same_new ht
        have hA4 := hA2.same (s3.trans s4)
        have ne : t ≠ hd := fun e => by
          rw [e, s3 _ _ hA2.ob] at ht
          cases ht
        have tk : TK K (upd H3 t (.tup [.str "told", v])) (upd (upd H3 t (.tup [.str "told", v])) hd (.ins C dx { h with fin := .ref t }.fs)) := fun a xs q => seqT_ins hA4.ob q
        refine fin h _ (.ref t) (fun c o e => ?_) fun H5 s5 => hB _ _ _ _ _ _ (tk.trans (.of s5)) (b _ t (s3.trans s4) upd_same)
        rw [upd_ne (ne_of_none e n1)]
        exact s4 _ _ (s3 _ _ (old kp _ _ e))
  · obtain ⟨rfl, h, hA2, kp, ht, b⟩ := z3 cls d H2 q
    exact ⟨true, hx, fun _ => ⟨h, hA2, ht, fin h H2 h.fin (old kp) fun H3 s3 => hB _ _ _ _ _ _ (.of s3) b⟩, fun z => (nomatch z)⟩
end
end TW
namespace TW
open PySem PySem.Spec PyProof.Rows L2
abbrev sAskL : Stmt := top 71
/-- the wishes about belts, and how many values they take -/
def CellKind (kind : Str) (args : List V) : Prop := (kind = "lay" ∧ ∃ a, args = [a]) ∨ (kind = "fetch" ∧ args = [])
def spAskL (K : PySem.W.Frag) (C CS CH : Addr) (n : Nat) : Sp := fun vs H Q E => ∃ (hd dx wt : Addr) (h : HS) (S : SS) (kind name : Str) (args : List V), vs = [.ref hd, .ref wt] ∧ HandAt K C H hd dx h ∧ ShopAt K CS H h.sh S ∧ SqT K H wt (.str kind :: .str name :: args) ∧ CellKind kind args ∧ name ∈ S.beltN ∧ (∀ (a : V), a ∈ args → Vn K H n a true) ∧
  h.asked ≤ h.ans.length ∧ h.ans.length ≤ 1000 ∧ h.halted = false ∧ ∀ H', Same H H' → (∀ v, h.ans[h.asked]? = some v → Q v (upd H' hd (.ins C dx { h with asked := h.asked + 1 }.fs))) ∧
    ∀ t, H' t = some (.tup (.str kind :: .str name :: args)) → h.asked = h.ans.length → E (.ref CH) none (upd H' hd (.ins C dx { h with pend := .ref t, halted := true }.fs))
section
variable {P : Program} {w : World} {K : PySem.W.Frag} {mg : Str → Option Value} {base : Heap} {C CS CH CN CV : Addr} {n : Nat}
/-- the two methods -/
structure CellMs (P : Program) (w : World) (K : PySem.W.Frag) (mg : Str → Option Value) (base : Heap) (C CS CH CN CV : Addr) (n : Nat) : Prop where
  lay : ∃ f fd, FnOk P w K mg base (L2.CX P w) (n + 5) f fd ["self", "belt", "value"] (spWish K C CS CH CN CV n 1 SS.beltN "lay") ∧ Meth K C "lay" f ∧ Binds K fd ["self", "belt", "value"] []
  fetch : ∃ f fd, FnOk P w K mg base (L2.CX P w) (n + 5) f fd ["self", "belt"] (spWish K C CS CH CN CV n 0 SS.beltN "fetch") ∧ Meth K C "fetch" f ∧ Binds K fd ["self", "belt"] []
theorem pe_never {X : Cx} {e : Expr} : PE X e (fun _ _ _ => False) := ⟨fun _ _ _ _ _ _ h => h.elim⟩
theorem scAskL : FnScope ["_law_hand", "_law_wish_here", "_law_kind"] ["_law_hand", "_law_wish_here"] (defScope sAskL) := ⟨rfl, rfl, rfl, by decide +kernel, rfl, by decide +kernel, by decide +kernel⟩
theorem ok_askL {f : Addr} {fd : FuncData} (F : Fun K "_law_ask" "_law_ask" sAskL f fd) (T : HTxt K C) (M : CellMs P w K mg base C CS CH CN CV n) : FnOk P w K mg base (L2.CX P w) (n + 6) f fd ["_law_hand", "_law_wish_here"] (spAskL K C CS CH n) := by
  refine F.okX scAskL (fun vs H Q E h => ?_) (fun cdv A outer s H vs Q E hr h => ?_)
  · obtain ⟨hd, dx, wt, h, S, kind, name, args, rfl, _⟩ := h
    rfl
  · obtain ⟨hd, dx, wt, h, S, kind, name, args, rfl, hA, hS, hw, ck, hm, hv, a1, a2, hf, k⟩ := h
    obtain ⟨f1, d1, G1, h1, b1⟩ := M.lay
    obtain ⟨f2, d2, G2, h2, b2⟩ := M.fetch
    have px : Passes (L2.CX P w) (cxOf (L2.CX P w) P w K mg base ["_law_hand", "_law_wish_here", "_law_kind"] "_law_ask" (defScope sAskL) f cdv A outer s H E) E := fun pins σ H s e s' I c => passAt (takes_of (E := E) rfl rfl rfl rfl) σ pins H s e s' I c
    refine ⟨_, pss_cons (ps_set (i := 2) scAskL.nd rfl (.inl rfl) (pe_ix ix_tup (pv 1) pe_int (fun _ _ => rfl)))
      (pss_cons (ps_if (pt_cmpR op_eq (pv 2) pe_str (nomark _)) (pss_one ps_never) pss_nil)
      (pss_cons (ps_if (pt_cmpR op_eq (pv 2) pe_str (nomark _)) (pss_one ps_never) pss_nil)
      (pss_cons (ps_if (pt_cmpR op_eq (pv 2) pe_str (nomark _)) (pss_one ps_never) pss_nil)
      (pss_cons (ps_if (pt_cmpR op_eq (pv 2) pe_str (nomark _)) (pss_one ps_never) pss_nil)
      (pss_cons (ps_if (pt_cmpR op_eq (pv 2) pe_str (nomark _)) (pss_one ps_never) pss_nil)
      (pss_cons (ps_if (pt_cmpR op_eq (pv 2) pe_str (nomark _)) (pss_one ps_never) pss_nil)
      (pss_cons (ps_if (pt_cmpR op_eq (pv 2) pe_str (nomark _)) (pss_one ps_never) pss_nil)
      (pss_cons (ps_if (pt_cmpR op_eq (pv 2) pe_str (nomark _)) (pss_one ps_never) pss_nil)
      (pss_cons (ps_if (pt_cmpR op_eq (pv 2) pe_str (nomark _)) (pss_one (ps_ret (pe_meth (pv 0) T.cl h1 G1 hr b1 .nil px (pa_cons (pe_ix ix_tup (pv 1) pe_int (fun _ _ => rfl)) (pa_cons (pe_ix ix_tup (pv 1) pe_int (fun _ _ => rfl)) pa_nil))))) pss_nil)
      (pss_one (ps_ret (pe_ifExp (pt_cmpR op_eq (pv 2) pe_str (nomark _)) (pe_meth (pv 0) T.cl h2 G2 hr b2 .nil px (pa_cons (pe_ix ix_tup (pv 1) pe_int (fun _ _ => rfl)) pa_nil)) pe_never)))))))))))), ?_⟩
    refine ⟨_, rfl, wt, _, _, _, rfl, rfl, hw, atI_nat (j := 0) rfl, ?_⟩
    have no : ∀ (m : Str), ¬ m = "me" → ¬ m = "shop" → ¬ m = "answers" → ¬ m = "asked" → ¬ m = "mine" → ¬ m = "words" → ¬ m = "pending" → ¬ m = "end" → ¬ m = "halted" → h.fs.lookup m = none := fun m z1 z2 z3 z4 z5 z6 z7 z8 z9 => hF_no z1 z2 z3 z4 z5 z6 z7 z8 z9
    have at1 : ∀ xs, atI (V.str kind :: V.str name :: xs) 1 = some (V.str name) := fun _ => atI_nat (j := 1) rfl
    rcases ck with ⟨rfl, a, rfl⟩ | ⟨rfl, rfl⟩
    · skip
      refine ⟨_, rfl, rfl, _, rfl, ?_⟩
      rw [decide_eq_false (by decide +kernel)]
      refine iteF ?_
      refine ⟨_, rfl, rfl, _, rfl, ?_⟩
      rw [decide_eq_false (by decide +kernel)]
      refine iteF ?_
      refine ⟨_, rfl, rfl, _, rfl, ?_⟩
      rw [decide_eq_false (by decide +kernel)]
      refine iteF ?_
      refine ⟨_, rfl, rfl, _, rfl, ?_⟩
      rw [decide_eq_false (by decide +kernel)]
      refine iteF ?_
      refine ⟨_, rfl, rfl, _, rfl, ?_⟩
      rw [decide_eq_false (by decide +kernel)]
      refine iteF ?_
      refine ⟨_, rfl, rfl, _, rfl, ?_⟩
      rw [decide_eq_false (by decide +kernel)]
      refine iteF ?_
      refine ⟨_, rfl, rfl, _, rfl, ?_⟩
      rw [decide_eq_false (by decide +kernel)]
      refine iteF ?_
      refine ⟨_, rfl, rfl, _, rfl, ?_⟩
      rw [decide_eq_false (by decide +kernel)]
      refine iteF ?_
      refine ⟨_, rfl, rfl, _, rfl, ?_⟩
      rw [decide_eq_true rfl]
      refine iteT ?_
      refine ⟨_, rfl, hd, dx, _, rfl, hA.ob, no "lay" (by decide +kernel) (by decide +kernel) (by decide +kernel) (by decide +kernel) (by decide +kernel) (by decide +kernel) (by decide +kernel) (by decide +kernel) (by decide +kernel), ?_⟩
      refine ⟨_, rfl, wt, _, _, _, rfl, rfl, hw, at1 _, ?_⟩
      refine ⟨_, rfl, wt, _, _, _, rfl, rfl, hw, atI_nat (j := 2) rfl, ?_⟩
      refine ⟨hd, dx, h, S, .str name, true, [a], [true], rfl, rfl, hA, hS, a1, a2, .inl ⟨_, rfl, (decide_eq_true hm).symm⟩, rfl, fun i r c e1 e2 => ?_, fun H4 s4 => ⟨fun z => absurd (hf.symm.trans z) (by decide), fun _ z => (nomatch z), fun _ _ i r e1 e2 => ?_, fun _ _ _ => ⟨(k H4 s4).1, (k H4 s4).2⟩⟩⟩
      · match i, e1, e2 with
        | 0, e1, e2 =>
          obtain rfl := Option.some.inj e1
          cases e2
          exact hv _ (by simp)
      · match i, e2 with
        | 0, e2 => cases e2
    · skip
      refine ⟨_, rfl, rfl, _, rfl, ?_⟩
      rw [decide_eq_false (by decide +kernel)]
      refine iteF ?_
      refine ⟨_, rfl, rfl, _, rfl, ?_⟩
      rw [decide_eq_false (by decide +kernel)]
      refine iteF ?_
      refine ⟨_, rfl, rfl, _, rfl, ?_⟩
      rw [decide_eq_false (by decide +kernel)]
      refine iteF ?_
      refine ⟨_, rfl, rfl, _, rfl, ?_⟩
      rw [decide_eq_false (by decide +kernel)]
      refine iteF ?_
      refine ⟨_, rfl, rfl, _, rfl, ?_⟩
      rw [decide_eq_false (by decide +kernel)]
      refine iteF ?_
      refine ⟨_, rfl, rfl, _, rfl, ?_⟩
      rw [decide_eq_false (by decide +kernel)]
      refine iteF ?_
      refine ⟨_, rfl, rfl, _, rfl, ?_⟩
      rw [decide_eq_false (by decide +kernel)]
      refine iteF ?_
      refine ⟨_, rfl, rfl, _, rfl, ?_⟩
      rw [decide_eq_false (by decide +kernel)]
      refine iteF ?_
      refine ⟨_, rfl, rfl, _, rfl, ?_⟩
      rw [decide_eq_false (by decide +kernel)]
      refine iteF ?_
      refine ⟨_, rfl, rfl, _, rfl, ?_⟩
      rw [decide_eq_true rfl]
      refine iteT ?_
      refine ⟨_, rfl, hd, dx, _, rfl, hA.ob, no "fetch" (by decide +kernel) (by decide +kernel) (by decide +kernel) (by decide +kernel) (by decide +kernel) (by decide +kernel) (by decide +kernel) (by decide +kernel) (by decide +kernel), ?_⟩
      refine ⟨_, rfl, wt, _, _, _, rfl, rfl, hw, at1 _, ?_⟩
      refine ⟨hd, dx, h, S, .str name, true, [], [], rfl, rfl, hA, hS, a1, a2, .inl ⟨_, rfl, (decide_eq_true hm).symm⟩, rfl, fun i r c e => (nomatch e), fun H4 s4 => ⟨fun z => absurd (hf.symm.trans z) (by decide), fun _ z => (nomatch z), fun _ _ i r e1 e2 => ?_, fun _ _ _ => ⟨(k H4 s4).1, (k H4 s4).2⟩⟩⟩
      · cases e1
end
end TW
namespace TW
open PySem PySem.Spec PyProof.Rows L2
abbrev s_take : Stmt := inClass (top 26) 6
abbrev s_reach : Stmt := inClass (top 26) 8
/-- a wish for a lock; gain: whether the work holds it behind this answer -/
def spLock (K : PySem.W.Frag) (C CS CH CN : Addr) (word : Str) (gain : V → Option Bool) : Sp := fun vs H Q E => ∃ (hd dx : Addr) (h : HS) (S : SS) (y : V) (b : Bool), vs = [.ref hd, y] ∧ HandAt K C H hd dx h ∧ ShopAt K CS H h.sh S ∧ h.asked ≤ h.ans.length ∧ h.ans.length ≤ 1000 ∧ Among K H S.locks y b ∧ h.mine.length < sizeLine ∧
  ∀ H', Same H H' → (h.halted = true → E (.ref CH) none H') ∧ (h.halted = false → b = false → EX E CN "name" y H') ∧
    (h.halted = false → b = true → ∃ nm, y = .str nm ∧
      (∀ v, h.ans[h.asked]? = some v → ∃ c, gain v = some c ∧ (c = true → Q v (upd (upd H' hd (.ins C dx { h with asked := h.asked + 1 }.fs)) h.md (.dK (putK h.mine (Sum.inr nm) (.bl true))))) ∧ (c = false → Q v (upd H' hd (.ins C dx { h with asked := h.asked + 1 }.fs)))) ∧
      ∀ t, H' t = some (.tup [.str word, y]) → h.asked = h.ans.length → E (.ref CH) none (upd H' hd (.ins C dx { h with pend := .ref t, halted := true }.fs)))
/-- the answer of a reach, as a truth -/
def truthOf : V → Option Bool
  | .bl c => some c
  | _ => none
theorem truthOf_some {v : V} {c : Bool} (e : truthOf v = some c) : v = .bl c := by
  cases v with
  | bl d =>
    have z : d = c := Option.some.inj e
    rw [z]
  | _ => cases e
section
variable {P : Program} {w : World} {K : PySem.W.Frag} {mg : Str → Option Value} {base : Heap} {C CS CH CN CV : Addr} {n : Nat}
theorem sc_take : FnScope ["self", "lock", "answer"] ["self", "lock"] (defScope s_take) := ⟨rfl, rfl, rfl, by decide +kernel, rfl, by decide +kernel, by decide +kernel⟩
theorem ok_take {f : Addr} {fd : FuncData} (F : Fun K "take" "Hand.take" s_take f fd) (T : HTxt K C) (TS : STxt K CS) (Z : Parts P w K mg base C CH CN CV n) : FnOk P w K mg base (L2.CX P w) (n + 5) f fd ["self", "lock"] (spLock K C CS CH CN "take" (fun _ => some true)) := by
  obtain ⟨fC, GC, mC, kC⟩ := Z.c
  obtain ⟨fA, fdA, GA, mA, kA, bA⟩ := Z.a
  refine F.okX sc_take (fun vs H Q E h => ?_) (fun cdv A outer s H vs Q E hr h => ?_)
  · obtain ⟨hd, dx, h, S, y, b, rfl, _⟩ := h
    rfl
  · obtain ⟨hd, dx, h, S, y, b, rfl, hA, hS, le, few, hY, lm, kk⟩ := h
    have hu := hu_of hr
    have hr2 : Room 2 _ := hr.mono (by omega)
    refine ⟨_, pss_cons (ps_expr (pe_callR GC hr kC rfl mC (passes_call (takes_of (E := E) rfl rfl rfl rfl) fun _ _ _ _ z => z) (pa_cons (pv 0) (pa_cons (pe_fld (pe_fld (pv 0) rfl) rfl) (pa_cons (pv 1) pa_nil)))))
      (pss_cons (ps_set (i := 2) sc_take.nd rfl (.inl rfl) (pe_callS GA hr2 rfl mA kA bA (fun σ => passAt (takes_of (E := E) rfl rfl rfl rfl) σ) (pa_cons (pv 0) (pa_cons (pe_tup (pa_cons pe_str (pa_cons (pv 1) pa_nil))) pa_nil))))
      (pss_cons (ps_dput hu (pe_fld (pv 0) rfl) (pv 1) pe_bl rfl)
      (pss_one (ps_ret (pv 2))))), ?_⟩
    refine ⟨_, rfl, _, rfl, hd, C, dx, _, _, rfl, hA.ob, T.cl, T.shop, hF_get1, h.sh, CS, S.dx, _, _, rfl, hS.ob, TS.cl, TS.locks, sF_get2, _, rfl, [.ref hd, .ref S.lt, y], [], rfl, rfl, by show 0 ≤ sizeLine; rw [sizeLine_eq]; decide, fun p hp => ?_⟩
    have e1 := same_new (o := .tup []) hp
    refine ⟨hd, dx, p, h, .ref S.lt, y, S.locks, b, [], [], rfl, upd_same, rfl, by show 0 ≤ 1000; decide, hA.same e1, .inr ⟨S.lt, rfl, seqT_same e1 hS.l⟩, hY.same e1, fun i r c h1 h2 => (nomatch h1), (kk _ e1).1, (kk _ e1).2.1, fun nh hb H' e => ⟨fun i r h1 => (nomatch h1), fun good => ?_⟩⟩
    have e2 := e1.trans e
    refine ⟨_, rfl, _, rfl, by show 2 ≤ sizeLine; rw [sizeLine_eq]; decide, fun t ht => ?_⟩
    have e3 := e2.trans (same_new (o := .tup [.str "take", y]) ht)
    obtain ⟨nm, rfl, q1, q2⟩ := (kk _ e3).2.2 nh hb
    have hA3 := hA.same e3
    refine ⟨hd, dx, h, .ref t, rfl, hA3, le, few, fun v hv => ?_, q2 t upd_same⟩
    obtain ⟨c, ec, r1, r2⟩ := q1 v hv
    obtain rfl := (Option.some.inj ec).symm
    have hA4 := hA3.set (h' := { h with asked := h.asked + 1 }) ⟨rfl, rfl, rfl, rfl, rfl, rfl⟩
    exact ⟨_, rfl, hd, C, dx, _, _, rfl, hA4.ob, T.cl, T.mine, hF_get4, _, rfl, h.md, _, rfl, DPut.k (k := Sum.inr nm) hA4.m lm, _, rfl, r1 rfl⟩
theorem sc_reach : FnScope ["self", "lock", "answer"] ["self", "lock"] (defScope s_reach) := ⟨rfl, rfl, rfl, by decide +kernel, rfl, by decide +kernel, by decide +kernel⟩
theorem ok_reach {f : Addr} {fd : FuncData} (F : Fun K "reach" "Hand.reach" s_reach f fd) (T : HTxt K C) (TS : STxt K CS) (Z : Parts P w K mg base C CH CN CV n) : FnOk P w K mg base (L2.CX P w) (n + 5) f fd ["self", "lock"] (spLock K C CS CH CN "reach" truthOf) := by
  obtain ⟨fC, GC, mC, kC⟩ := Z.c
  obtain ⟨fA, fdA, GA, mA, kA, bA⟩ := Z.a
  refine F.okX sc_reach (fun vs H Q E h => ?_) (fun cdv A outer s H vs Q E hr h => ?_)
  · obtain ⟨hd, dx, h, S, y, b, rfl, _⟩ := h
    rfl
  · obtain ⟨hd, dx, h, S, y, b, rfl, hA, hS, le, few, hY, lm, kk⟩ := h
    have hu := hu_of hr
    have hr2 : Room 2 _ := hr.mono (by omega)
    refine ⟨_, pss_cons (ps_expr (pe_callR GC hr kC rfl mC (passes_call (takes_of (E := E) rfl rfl rfl rfl) fun _ _ _ _ z => z) (pa_cons (pv 0) (pa_cons (pe_fld (pe_fld (pv 0) rfl) rfl) (pa_cons (pv 1) pa_nil)))))
      (pss_cons (ps_set (i := 2) sc_reach.nd rfl (.inl rfl) (pe_callS GA hr2 rfl mA kA bA (fun σ => passAt (takes_of (E := E) rfl rfl rfl rfl) σ) (pa_cons (pv 0) (pa_cons (pe_tup (pa_cons pe_str (pa_cons (pv 1) pa_nil))) pa_nil))))
      (pss_cons (ps_if (pt_val (pv 2)) (pss_one (ps_dput hu (pe_fld (pv 0) rfl) (pv 1) pe_bl rfl)) pss_nil)
      (pss_one (ps_ret (pv 2))))), ?_⟩
    refine ⟨_, rfl, _, rfl, hd, C, dx, _, _, rfl, hA.ob, T.cl, T.shop, hF_get1, h.sh, CS, S.dx, _, _, rfl, hS.ob, TS.cl, TS.locks, sF_get2, _, rfl, [.ref hd, .ref S.lt, y], [], rfl, rfl, by show 0 ≤ sizeLine; rw [sizeLine_eq]; decide, fun p hp => ?_⟩
    have e1 := same_new (o := .tup []) hp
    refine ⟨hd, dx, p, h, .ref S.lt, y, S.locks, b, [], [], rfl, upd_same, rfl, by show 0 ≤ 1000; decide, hA.same e1, .inr ⟨S.lt, rfl, seqT_same e1 hS.l⟩, hY.same e1, fun i r c h1 h2 => (nomatch h1), (kk _ e1).1, (kk _ e1).2.1, fun nh hb H' e => ⟨fun i r h1 => (nomatch h1), fun good => ?_⟩⟩
    have e2 := e1.trans e
    refine ⟨_, rfl, _, rfl, by show 2 ≤ sizeLine; rw [sizeLine_eq]; decide, fun t ht => ?_⟩
    have e3 := e2.trans (same_new (o := .tup [.str "reach", y]) ht)
    obtain ⟨nm, rfl, q1, q2⟩ := (kk _ e3).2.2 nh hb
    have hA3 := hA.same e3
    refine ⟨hd, dx, h, .ref t, rfl, hA3, le, few, fun v hv => ?_, q2 t upd_same⟩
    obtain ⟨c, ec, r1, r2⟩ := q1 v hv
    obtain rfl := truthOf_some ec
    have hA4 := hA3.set (h' := { h with asked := h.asked + 1 }) ⟨rfl, rfl, rfl, rfl, rfl, rfl⟩
    refine ⟨_, rfl, _, rfl, ?_⟩
    cases c with
    | true =>
      refine iteT ?_
      exact ⟨_, rfl, hd, C, dx, _, _, rfl, hA4.ob, T.cl, T.mine, hF_get4, _, rfl, h.md, _, rfl, DPut.k (k := Sum.inr nm) hA4.m lm, _, rfl, r1 rfl⟩
    | false =>
      refine iteF ?_
      exact ⟨_, rfl, r2 rfl⟩
end
end TW
namespace TW
open PySem PySem.Spec PyProof.Rows L2
abbrev s_give : Stmt := inClass (top 26) 7
/-- giving a lock back: held, whether the work holds it -/
def spGive (K : PySem.W.Frag) (C CS CH CN CL : Addr) : Sp := fun vs H Q E => ∃ (hd dx : Addr) (h : HS) (S : SS) (y : V) (b : Bool), vs = [.ref hd, y] ∧ HandAt K C H hd dx h ∧ ShopAt K CS H h.sh S ∧ h.asked ≤ h.ans.length ∧ h.ans.length ≤ 1000 ∧ Among K H S.locks y b ∧ h.mine.length < sizeLine ∧
  ∀ H', Same H H' → (h.halted = true → E (.ref CH) none H') ∧ (h.halted = false → b = false → EX E CN "name" y H') ∧
    (h.halted = false → b = true → ∃ nm c, y = .str nm ∧ (valV h.mine (Sum.inr nm)).getD (.bl false) = .bl c ∧ (c = false → EX E CL "lock" y H') ∧ (c = true →
      (∀ v, h.ans[h.asked]? = some v → Q v (upd (upd H' hd (.ins C dx { h with asked := h.asked + 1 }.fs)) h.md (.dK (putK h.mine (Sum.inr nm) (.bl false))))) ∧
      ∀ t, H' t = some (.tup [.str "give", y]) → h.asked = h.ans.length → E (.ref CH) none (upd H' hd (.ins C dx { h with pend := .ref t, halted := true }.fs))))
section
variable {P : Program} {w : World} {K : PySem.W.Frag} {mg : Str → Option Value} {base : Heap} {C CS CH CN CV CL : Addr} {n : Nat}
theorem sc_give : FnScope ["self", "lock", "answer"] ["self", "lock"] (defScope s_give) := ⟨rfl, rfl, rfl, by decide +kernel, rfl, by decide +kernel, by decide +kernel⟩
theorem ok_give {f : Addr} {fd : FuncData} (F : Fun K "give" "Hand.give" s_give f fd) (T : HTxt K C) (TS : STxt K CS) (Z : Parts P w K mg base C CH CN CV n) (ZL : Err1 P w K mg base "NotHeld" "lock" CL) : FnOk P w K mg base (L2.CX P w) (n + 5) f fd ["self", "lock"] (spGive K C CS CH CN CL) := by
  obtain ⟨fC, GC, mC, kC⟩ := Z.c
  obtain ⟨fA, fdA, GA, mA, kA, bA⟩ := Z.a
  obtain ⟨fI, fdI, z, g⟩ := ZL.ex
  refine F.okX sc_give (fun vs H Q E h => ?_) (fun cdv A outer s H vs Q E hr h => ?_)
  · obtain ⟨hd, dx, h, S, y, b, rfl, _⟩ := h
    rfl
  · obtain ⟨hd, dx, h, S, y, b, rfl, hA, hS, le, few, hY, lm, kk⟩ := h
    have hu := hu_of hr
    have hr2 : Room 2 _ := hr.mono (by omega)
    refine ⟨_, pss_cons (ps_expr (pe_callR GC hr kC rfl mC (passes_call (takes_of (E := E) rfl rfl rfl rfl) fun _ _ _ _ z => z) (pa_cons (pv 0) (pa_cons (pe_fld (pe_fld (pv 0) rfl) rfl) (pa_cons (pv 1) pa_nil)))))
      (pss_cons (ps_if (pt_not (pt_val (pe_dget2 hu (pe_fld (pv 0) rfl) (pv 1) pe_bl ⟨rfl, rfl, rfl, rfl⟩))) (pss_one (ps_raise rfl (takes_of (E := E) rfl rfl rfl rfl) (pmk_err z g hr2 ZL.m (pa_cons (pv 1) pa_nil)))) pss_nil)
      (pss_cons (ps_set (i := 2) sc_give.nd rfl (.inl rfl) (pe_callS GA hr2 rfl mA kA bA (fun σ => passAt (takes_of (E := E) rfl rfl rfl rfl) σ) (pa_cons (pv 0) (pa_cons (pe_tup (pa_cons pe_str (pa_cons (pv 1) pa_nil))) pa_nil))))
      (pss_cons (ps_dput hu (pe_fld (pv 0) rfl) (pv 1) pe_bl rfl)
      (pss_one (ps_ret (pv 2)))))), ?_⟩
    refine ⟨_, rfl, _, rfl, hd, C, dx, _, _, rfl, hA.ob, T.cl, T.shop, hF_get1, h.sh, CS, S.dx, _, _, rfl, hS.ob, TS.cl, TS.locks, sF_get2, _, rfl, [.ref hd, .ref S.lt, y], [], rfl, rfl, by show 0 ≤ sizeLine; rw [sizeLine_eq]; decide, fun p hp => ?_⟩
    have e1 := same_new (o := .tup []) hp
    refine ⟨hd, dx, p, h, .ref S.lt, y, S.locks, b, [], [], rfl, upd_same, rfl, by show 0 ≤ 1000; decide, hA.same e1, .inr ⟨S.lt, rfl, seqT_same e1 hS.l⟩, hY.same e1, fun i r c h1 h2 => (nomatch h1), (kk _ e1).1, (kk _ e1).2.1, fun nh hb H' e => ⟨fun i r h1 => (nomatch h1), fun good => ?_⟩⟩
    have e2 := e1.trans e
    have hA2 := hA.same e2
    obtain ⟨nm, c, ey, ec, f1, f2⟩ := (kk _ e2).2.2 nh hb
    subst ey
    refine ⟨_, rfl, hd, C, dx, _, _, rfl, hA2.ob, T.cl, T.mine, hF_get4, h.md, rfl, .inl ⟨_, .inl hA2.m⟩, _, rfl, _, DGet.k (k := Sum.inr nm) hA2.m, c, ec, ?_⟩
    cases c with
    | false => exact iteT ⟨_, rfl, _, rfl, f1 rfl⟩
    | true =>
      refine iteF ?_
      refine ⟨_, rfl, _, rfl, by show 2 ≤ sizeLine; rw [sizeLine_eq]; decide, fun t ht => ?_⟩
      have e3 := e2.trans (same_new (o := .tup [.str "give", .str nm]) ht)
      obtain ⟨nm2, c2, ey2, ec2, _, f3⟩ := (kk _ e3).2.2 nh hb
      obtain rfl := V.str.inj ey2
      obtain rfl : c2 = true := V.bl.inj (ec2.symm.trans ec)
      obtain ⟨q1, q2⟩ := f3 rfl
      have hA3 := hA.same e3
      refine ⟨hd, dx, h, .ref t, rfl, hA3, le, few, fun v hv => ?_, q2 t upd_same⟩
      have hA4 := hA3.set (h' := { h with asked := h.asked + 1 }) ⟨rfl, rfl, rfl, rfl, rfl, rfl⟩
      exact ⟨_, rfl, hd, C, dx, _, _, rfl, hA4.ob, T.cl, T.mine, hF_get4, _, rfl, h.md, _, rfl, DPut.k (k := Sum.inr nm) hA4.m lm, _, rfl, q1 v hv⟩
end
end TW
namespace TW
open PySem PySem.Spec PyProof.Rows L2
abbrev sCkW : Stmt := top 58
abbrev sCkL : Stmt := top 61
abbrev sCopied : Stmt := top 62
def spCkW (K : PySem.W.Frag) (CB : Addr) (fld : Str) : Sp := fun vs H Q E => ∃ (a : Addr) (ws : List V), vs = [.ref a] ∧ SqT K H a ws ∧ ((1 ≤ ws.length ∧ ws.length ≤ 4) → Q .non H) ∧ (¬ (1 ≤ ws.length ∧ ws.length ≤ 4) → EX E CB fld (.int (ws.length : Nat)) H)
def spCkL (K : PySem.W.Frag) (CB : Addr) (fld : Str) : Sp := fun vs H Q E => ∃ (x : V) (t : Int) (b : Bool), vs = [x, .int t] ∧ Whl K H x b ∧ (b = false → EX E CB fld x H) ∧ (b = true → ∃ i : Int, x = .int i ∧ ((1 ≤ i ∧ i ≤ t) → Q .non H) ∧ (¬ (1 ≤ i ∧ i ≤ t) → EX E CB fld x H))
def spCopied : Sp := fun vs H Q _ => (vs = [.non] ∧ ∀ d, H d = none → Q (.ref d) (upd H d (.dK []))) ∨ ∃ a kvs, vs = [.ref a] ∧ Rd H a (.dK kvs) ∧ ∀ d, H d = none → Q (.ref d) (upd H d (.dK kvs))
section
variable {P : Program} {w : World} {K : PySem.W.Frag} {mg : Str → Option Value} {base : Heap} {CB : Addr} {n : Nat} {u : Value}
theorem scCkW : FnScope ["works"] ["works"] (defScope sCkW) := ⟨rfl, rfl, rfl, by decide +kernel, rfl, by decide +kernel, by decide +kernel⟩
theorem ok_ckW {f : Addr} {fd : FuncData} (F : Fun K "check_works" "check_works" sCkW f fd) (B : Blt mg) (mM : mg "MOST_WORKS" = some u) (ru : RelV (.int 4) u) (Z : Err1 P w K mg base "BadWorks" "count" CB) : FnOk P w K mg base (L2.CX P w) 3 f fd ["works"] (spCkW K CB "count") := by
  obtain ⟨fI, fdI, z, g⟩ := Z.ex
  refine F.okX scCkW (fun vs H Q E h => ?_) (fun cdv A outer s H vs Q E hr h => ?_)
  · obtain ⟨a, ws, rfl, _⟩ := h
    rfl
  · obtain ⟨a, ws, rfl, ha, k1, k2⟩ := h
    have hr2 : Room 2 _ := hr.mono (by omega)
    refine ⟨_, pss_one (ps_if (pt_not (pt_chain op_le op_le pe_int (pe_callB call_len_seq (by rfl) B.len PySem.boot_len (pa_cons (pv 0) pa_nil)) (pe_glob (v := .int 4) rfl mM ru))) (pss_one (ps_raise rfl (takes_of (E := E) rfl rfl rfl rfl) (pmk_err z g hr2 Z.m (pa_cons (pe_callB call_len_seq (by rfl) B.len PySem.boot_len (pa_cons (pv 0) pa_nil)) pa_nil)))) pss_nil), ?_⟩
    refine ⟨_, rfl, a, _, rfl, .inr ha, _, _, rfl, rfl, _, rfl, ?_⟩
    by_cases c1 : (1 : Int) ≤ (ws.length : Nat)
    · rw [decide_eq_true c1]
      refine iteT ?_
      refine ⟨_, _, rfl, rfl, _, rfl, ?_⟩
      by_cases c2 : ((ws.length : Nat) : Int) ≤ 4
      · rw [decide_eq_true c2]
        exact iteF (k1 ⟨by omega, by omega⟩)
      · rw [decide_eq_false c2]
        exact iteT ⟨_, rfl, a, _, rfl, .inr ha, _, rfl, k2 (by omega)⟩
    · rw [decide_eq_false c1]
      exact ⟨_, rfl, iteT ⟨_, rfl, a, _, rfl, .inr ha, _, rfl, k2 (by omega)⟩⟩
theorem scCkL : FnScope ["limit", "top"] ["limit", "top"] (defScope sCkL) := ⟨rfl, rfl, rfl, by decide +kernel, rfl, by decide +kernel, by decide +kernel⟩
theorem ok_ckL {f fW : Addr} {fd fdW : FuncData} (F : Fun K "check_limit" "check_limit" sCkL f fd) (G : FnOk P w K mg base CX0 1 fW fdW ["given"] (spWhole K)) (mG : mg "is_whole" = some (.ref fW)) (kG : PySem.W.keepIn K (.ref fW) = true) (bG : Binds K fdW ["given"] []) (Z : Err1 P w K mg base "BadLimit" "limit" CB) : FnOk P w K mg base (L2.CX P w) 3 f fd ["limit", "top"] (spCkL K CB "limit") := by
  obtain ⟨fI, fdI, z, g⟩ := Z.ex
  refine F.okX scCkL (fun vs H Q E h => ?_) (fun cdv A outer s H vs Q E hr h => ?_)
  · obtain ⟨x, t, b, rfl, _⟩ := h
    rfl
  · obtain ⟨x, t, b, rfl, hW, k1, k2⟩ := h
    have hr1 : Room 1 _ := hr.mono (by omega)
    have hr2 : Room 2 _ := hr.mono (by omega)
    refine ⟨_, pss_one (ps_if (PW.pt (pw_or (pt_not (pt_val (pe_call G hr1 rfl mG kG bG .nil pass0 (pa_cons (pv 0) pa_nil)))) (pw_or1 (pt_not (pt_chain op_le op_le pe_int (pv 0) (pv 1))))))
        (pss_one (ps_raise rfl (takes_of (E := E) rfl rfl rfl rfl) (pmk_err z g hr2 Z.m (pa_cons (pv 0) pa_nil)))) pss_nil), ?_⟩
    refine ⟨_, rfl, x, b, rfl, hW, b, rfl, ?_⟩
    cases b with
    | false => exact iteT (iteT ⟨_, rfl, _, rfl, k1 rfl⟩)
    | true =>
      obtain ⟨i, rfl, q1, q2⟩ := k2 rfl
      refine iteF ?_
      refine ⟨_, rfl, _, _, rfl, rfl, _, rfl, ?_⟩
      by_cases c1 : 1 ≤ i
      · rw [decide_eq_true c1]
        refine iteT ?_
        refine ⟨_, rfl, _, _, rfl, rfl, _, rfl, ?_⟩
        by_cases c2 : i ≤ t
        · rw [decide_eq_true c2]
          exact iteF (q1 ⟨c1, c2⟩)
        · rw [decide_eq_false c2]
          exact iteT ⟨_, rfl, _, rfl, q2 (fun z => c2 z.2)⟩
      · rw [decide_eq_false c1]
        exact ⟨_, rfl, iteT ⟨_, rfl, _, rfl, q2 (fun z => c1 z.1)⟩⟩
theorem scCopied : FnScope ["table"] ["table"] (defScope sCopied) := ⟨rfl, rfl, rfl, by decide +kernel, rfl, by decide +kernel, by decide +kernel⟩
theorem ok_copied {f : Addr} {fd : FuncData} (F : Fun K "copied" "copied" sCopied f fd) (B : Blt mg) : FnOk P w K mg base CX0 1 f fd ["table"] spCopied := by
  refine F.ok scCopied (fun vs H Q E h => ?_) (fun cdv A outer s H vs Q E hr h => ?_)
  · rcases h with ⟨rfl, _⟩ | ⟨a, kvs, rfl, _⟩ <;> rfl
  · refine ⟨_, pss_cons (ps_if (pt_cmpR op_isN (pv 0) pe_non (nomark _)) (pss_one (ps_ret pe_dnewK)) pss_nil) (pss_one (ps_ret (pe_callTy call_dictD (by rfl) B.dict (by decide +kernel) (pa_cons (pv 0) pa_nil)))), ?_⟩
    rcases h with ⟨rfl, k⟩ | ⟨a, kvs, rfl, hd, k⟩
    · refine ⟨_, rfl, rfl, _, rfl, ?_⟩
      exact iteT k
    · refine ⟨_, rfl, rfl, _, rfl, ?_⟩
      exact iteF ⟨_, rfl, a, kvs, rfl, hd, k⟩
abbrev sCkS : Stmt := top 60
/-- a belt's size: None, or a number from 1 -/
def spCkS (K : PySem.W.Frag) (CB : Addr) (fld : Str) : Sp := fun vs H Q E => ∃ x : V, vs = [x] ∧ ((x = .non ∧ Q .non H) ∨ (x ≠ .non ∧ ∃ b, Whl K H x b ∧ (b = false → EX E CB fld x H) ∧ (b = true → ∃ i : Int, x = .int i ∧ (1 ≤ i → Q .non H) ∧ (i < 1 → EX E CB fld x H))))
theorem scCkS : FnScope ["size"] ["size"] (defScope sCkS) := ⟨rfl, rfl, rfl, by decide +kernel, rfl, by decide +kernel, by decide +kernel⟩
theorem ok_ckS {f fW : Addr} {fd fdW : FuncData} (F : Fun K "check_size" "check_size" sCkS f fd) (G : FnOk P w K mg base CX0 1 fW fdW ["given"] (spWhole K)) (mG : mg "is_whole" = some (.ref fW)) (kG : PySem.W.keepIn K (.ref fW) = true) (bG : Binds K fdW ["given"] []) (Z : Err1 P w K mg base "BadSize" "size" CB) : FnOk P w K mg base (L2.CX P w) 3 f fd ["size"] (spCkS K CB "size") := by
  obtain ⟨fI, fdI, z, g⟩ := Z.ex
  refine F.okX scCkS (fun vs H Q E h => ?_) (fun cdv A outer s H vs Q E hr h => ?_)
  · obtain ⟨x, rfl, _⟩ := h
    rfl
  · obtain ⟨x, rfl, h⟩ := h
    have hr1 : Room 1 _ := hr.mono (by omega)
    have hr2 : Room 2 _ := hr.mono (by omega)
    refine ⟨_, pss_cons (ps_if (pt_cmpR op_isN (pv 0) pe_non (nomark _)) (pss_one ps_retN) pss_nil)
      (pss_one (ps_if (PW.pt (pw_or (pt_not (pt_val (pe_call G hr1 rfl mG kG bG .nil pass0 (pa_cons (pv 0) pa_nil)))) (pw_or1 (pt_cmpR op_lt (pv 0) pe_int (nomark _)))))
        (pss_one (ps_raise rfl (takes_of (E := E) rfl rfl rfl rfl) (pmk_err z g hr2 Z.m (pa_cons (pv 0) pa_nil)))) pss_nil)), ?_⟩
    rcases h with ⟨rfl, k⟩ | ⟨hx, b, hW, k1, k2⟩
    · refine ⟨_, rfl, rfl, _, rfl, ?_⟩
      exact iteT k
    · refine ⟨_, rfl, rfl, _, rfl, ?_⟩
      rw [decide_eq_false hx]
      refine iteF ?_
      refine ⟨_, rfl, x, b, rfl, hW, b, rfl, ?_⟩
      cases b with
      | false => exact iteT (iteT ⟨_, rfl, _, rfl, k1 rfl⟩)
      | true =>
        obtain ⟨i, rfl, q1, q2⟩ := k2 rfl
        refine iteF ?_
        refine ⟨_, rfl, _, _, rfl, rfl, _, rfl, ?_⟩
        by_cases c : i < 1
        · rw [decide_eq_true c]
          exact iteT ⟨_, rfl, _, rfl, q2 c⟩
        · rw [decide_eq_false c]
          exact iteF (q1 (by omega))
end
end TW
namespace TW
open PySem PySem.Spec PyProof.Rows L2
abbrev sWord : Stmt := top 16
abbrev sNamesD : Stmt := top 59
/-- whether a sign is a small letter -/
def isL (c : Nat) : Bool := !decide (([c] : List Nat) < [97]) && !decide (([122] : List Nat) < [c])
/-- whether a text is a word -/
def isW (z : Str) : Bool := decide (1 ≤ z.length) && (decide (z.length ≤ 8) && z.cps.toList.all isL)
def Wd (K : PySem.W.Frag) (H : Hp) (x : V) (b : Bool) : Prop := (∃ z, x = .str z ∧ z.length ≤ 1000 ∧ b = isW z) ∨ (b = false ∧ ∃ T, TyX K H x (.type T) ∧ kitB T "str" = some false)
def spWord (K : PySem.W.Frag) : Sp := fun vs H Q _ => ∃ (x : V) (b : Bool), vs = [x] ∧ Wd K H x b ∧ ∀ H', Same H H' → Q (.bl b) H'
theorem sign_a : (Str.ofString "a").cps.toList = [97] := by decide +kernel
theorem sign_z : (V.str (Str.ofString "z")) = V.str ⟨#[122]⟩ := by decide +kernel
section
variable {P : Program} {w : World} {K : PySem.W.Frag} {mg : Str → Option Value} {base : Heap} {u : Value}
theorem scWord : FnScope ["given", "letter"] ["given"] (defScope sWord) := ⟨rfl, rfl, rfl, by decide +kernel, rfl, by decide +kernel, by decide +kernel⟩
theorem ok_word {f : Addr} {fd : FuncData} (F : Fun K "is_word" "is_word" sWord f fd) (B : Blt mg) (mL : mg "LONGEST_WORD" = some u) (ru : RelV (.int 8) u) : FnOk P w K mg base CX0 1 f fd ["given"] (spWord K) := by
  refine F.ok scWord (fun vs H Q E h => ?_) (fun cdv A outer s H vs Q E hr h => ?_)
  · obtain ⟨x, b, rfl, _⟩ := h
    rfl
  · obtain ⟨x, b, rfl, hW, kQ⟩ := h
    refine ⟨_, pss_cons (ps_if (PW.pt (pw_or (pt_not (pt_val (pe_callB call_isi (by rfl) B.isi (by decide +kernel) (pa_cons (pv 0) (pa_cons (pe_bltn (v := .ty "str") (by rfl) B.str (by decide +kernel) rfl) pa_nil)))))
          (pw_or1 (pt_not (pt_chain op_le op_le pe_int (pe_callB call_len (by rfl) B.len PySem.boot_len (pa_cons (pv 0) pa_nil)) (pe_glob (v := .int 8) rfl mL ru))))))
        (pss_one (ps_ret pe_bl)) pss_nil)
      (pss_one (ps_ret (pe_callB (cr_all rfl) (by rfl) B.all (by decide +kernel) (pa_cons
        (pe_lc (own := [("letter", 1)]) (g := gName 1) rfl scWord.nd (pi_str (pv 0)) (blkOk_by (N := ["given", "letter"]) (sc := defScope sWord) (by decide +kernel))
          (fun _ _ _ _ _ => pg_name (i := 1) scWord.nd rfl (Or.inl rfl)) (fun _ _ _ _ _ => pts_nil) (fun _ _ _ _ _ => pe_chain op_le_str op_le_str pe_str (pv 1) pe_str)) pa_nil)))), ?_⟩
    rcases hW with ⟨z, rfl, few, rfl⟩ | ⟨rfl, T, ty, e1⟩
    · refine ⟨_, rfl, _, _, _, _, _, rfl, .ty _, .base (.str z), kit_ty (r := true) (by decide +kernel), _, rfl, ?_⟩
      refine iteF ?_
      refine ⟨_, rfl, .str z, z.length, rfl, ⟨Nat.le_trans few (Nat.le_of_lt (small_sz (by decide))), rfl⟩, _, _, rfl, rfl, _, rfl, ?_⟩
      by_cases c1 : (1 : Int) ≤ (z.length : Nat)
      · rw [decide_eq_true c1]
        refine iteT ?_
        refine ⟨_, _, rfl, rfl, _, rfl, ?_⟩
        by_cases c2 : ((z.length : Nat) : Int) ≤ 8
        · rw [decide_eq_true c2]
          refine iteF ?_
          refine ⟨_, rfl, z, rfl, fun D hD => ?_⟩
          refine lc_it walk_str (fun i H' => Same H H' ∧ H' D = some (.lst ((z.cps.toList.take i).map fun c => V.bl (isL c)))) ⟨same_new hD, upd_same⟩ (fun _ _ _ _ => trivial) ?_ ?_
          · rintro i x H' H'' hi ⟨zz, hd⟩ ⟨rfl, c, hc, rfl⟩
            have hc2 : z.cps.toList[i]? = some c := by rw [Array.getElem?_toList]; exact hc
            refine ⟨rfl, ?_⟩
            unfold tYes
            dsimp only
            refine iteT ?_
            have fin : ∀ b, b = isL c → ∃ acc, H'' D = some (.lst acc) ∧ acc.length < sizeLine ∧ (Same H (upd H'' D (.lst (acc ++ [V.bl b]))) ∧ (upd H'' D (.lst (acc ++ [V.bl b]))) D = some (.lst ((z.cps.toList.take (i + 1)).map fun c => V.bl (isL c)))) := by
              rintro b rfl
              refine ⟨_, hd, ?_, fun q o e => ?_, ?_⟩
              · rw [List.length_map, List.length_take]
                have f2 : z.cps.toList.length ≤ 1000 := few
                exact Nat.lt_of_le_of_lt (Nat.min_le_right _ _) (Nat.lt_of_lt_of_le (Nat.lt_succ_of_le f2) (small_sz (n := 1001) (by decide)))
              · rw [upd_ne (ne_of_none e hD)]
                exact zz q o e
              · rw [upd_same, List.take_add_one, hc2, List.map_append]
                rfl
            refine ⟨_, rfl, _, _, rfl, rfl, _, rfl, ?_⟩
            rw [sign_a, sign_z]
            refine ite2 (fun k1 => ?_) (fun k1 => ?_)
            · have i1 : (!decide (([c] : List Nat) < [97])) = true := k1
              refine ⟨_, _, rfl, rfl, ?_⟩
              refine fin _ ?_
              unfold isL
              rw [i1, Bool.true_and]
            · have i1 : (!decide (([c] : List Nat) < [97])) = false := Bool.not_eq_true _ ▸ k1
              refine fin _ ?_
              unfold isL
              rw [i1, Bool.false_and]
          · rintro H' ⟨zz, hd⟩
            rw [show z.cps.toList.take z.cps.size = z.cps.toList from List.take_length] at hd
            refine ⟨D, z.cps.toList.map isL, rfl, SqL.of (by rw [hd, List.map_map]; rfl), ?_⟩
            have e : isW z = (z.cps.toList.map isL).all id := by
              unfold isW
              rw [decide_eq_true (p := 1 ≤ z.length) (by omega), decide_eq_true (p := z.length ≤ 8) (by omega), List.all_map]
              rfl
            rw [e] at kQ
            exact kQ _ zz
        · rw [decide_eq_false c2]
          have e : isW z = false := by
            unfold isW
            rw [decide_eq_false (p := z.length ≤ 8) (by omega)]
            exact Bool.and_false _
          rw [e] at kQ
          exact iteT (kQ _ (Same.refl _))
      · rw [decide_eq_false c1]
        have e : isW z = false := by
          unfold isW
          rw [decide_eq_false (p := 1 ≤ z.length) (by omega)]
          rfl
        rw [e] at kQ
        exact ⟨_, rfl, iteT (kQ _ (Same.refl _))⟩
    · refine ⟨_, rfl, _, _, _, _, _, rfl, .ty _, ty, kit_ty e1, _, rfl, ?_⟩
      exact iteT (iteT (kQ _ (Same.refl _)))
end
end TW
namespace L2
open PySem PySem.Spec PyProof.Rows
section
variable {prog : Program} {w : World} {A : Around} {E : Value → Shared → Prop} {s : Shared} {T : String} {r d : Addr} {n : Nat} {P : Nat → Value → Prop} {OK : Heap → Prop}
/-- what a source of list() gives to a star -/
theorem collect_src {Q : List Value → Shared → Prop} (K : PySem.W.KdlSrc prog w T r d n P OK) (hh : A.handled = none) (hok : OK s.heap) (hn : n ≤ sizeLine)
    (hQ : ∀ h' tk acc', (∀ b o, s.heap.get? b = some o → h'.get? b = some o) → ItemsOf P acc' n → Q acc'.toList { s with heap := h', toks := tk }) : wpAny (model prog w) A (collect (.ref r)) Q E s := by
  unfold collect
  refine wpAny_bind (wpAny_runValue (codeAny_builtin F.entry_proto_collect ?_)); rw [Around.under_plainId F.plain_proto_collect _]
  show wpAny _ A.in1 (newList [] >>= fun l => again (.builtin "list.__iadd__" ⟨[l, .ref r], []⟩)) _ _ s
  refine wpAny_bind (wpAny_newObj_type ?_); refine wpAny_pure ⟨plainId_quiet F.plain_list_iadd _, codeAny_builtin F.entry_list_iadd ?_⟩; rw [Around.under_plainId F.plain_list_iadd _]
  have th := K.there _ hok
  have hS : (s.heap.push { cls := .type "list", data := .seq ([] : List Value).toArray }).get? s.heap.objs.size = some { cls := .type "list", data := .seq #[] 0 } := Heap.get?_push_size _ rfl
  have ok2 := K.keep _ (s.heap.push { cls := .type "list", data := .seq ([] : List Value).toArray }) hok fun b _ o e => Heap.get?_push_of_some _ e
  show wpAny _ A.in1 (Builtin.List.listExtendWith (.ref s.heap.objs.size) (.ref r) (.ref s.heap.objs.size)) _ _ _
  have z := PySem.W.kdl_extend (A := A) (R := fun (f : Result) (s' : Shared) => ∃ h' tk acc' c', f = .ok (.ret (.ref s.heap.objs.size)) ∧ s' = { s with heap := h', toks := tk } ∧ (∀ b o, s.heap.get? b = some o → h'.get? b = some o) ∧ h'.get? s.heap.objs.size = some { cls := .type "list", dict := none, data := .seq acc' c', slots := #[] } ∧ ItemsOf P acc' n)
    (s := { s with heap := s.heap.push { cls := .type "list", data := .seq ([] : List Value).toArray } }) K hh ok2 s.heap.objs.size (Nat.ne_of_gt th.1) (Nat.ne_of_gt th.2) (.ref s.heap.objs.size) 0 hS
    (fun h' tk acc' c' hk hS' hacc => ⟨h', tk, acc', c', rfl, rfl, fun b o e => hk b o (Nat.ne_of_lt (Heap.lt_size e)) (Heap.get?_push_of_some _ e), hS', hacc⟩) hn
  have done : ∀ (f : Result) (s' : Shared), (∃ h' tk acc' c', f = .ok (.ret (.ref s.heap.objs.size)) ∧ s' = { s with heap := h', toks := tk } ∧ (∀ b o, s.heap.get? b = some o → h'.get? b = some o) ∧ h'.get? s.heap.objs.size = some { cls := .type "list", dict := none, data := .seq acc' c', slots := #[] } ∧ ItemsOf P acc' n) →
      (match f with
      | .ok (.ret v) => wpAny (model prog w) A (match v with
          | .ref a => (do match (← load a).data with
            | .seq xs _ => pure xs.toList
            | _ => unsupported "internal:collect")
          | _ => unsupported "internal:collect") Q E s'
      | .ok _ => False
      | .error e => E e s') := by
    rintro f s' ⟨h', tk, acc', c', rfl, rfl, hk, hS', hacc⟩
    exact wpAny_bind (wpAny_load hS' (wpAny_pure (hQ h' tk acc' hk hacc)))
  refine wpAny_mono z (fun fin s' k => ?_) (fun e s' k => done _ s' k)
  cases fin with
  | done f => exact done _ s' k
  | again c' => exact ⟨k.1, codeAny_mono k.2 fun f s'' q => done f s'' q⟩
end
section
variable {X : Cx} {pins : List (Addr × Obj)} {σ : L2.St} {H : Hp} {s : Shared}
theorem star_dK {a : Addr} {kvs : List (Key × V)} {E : Value → Shared → Prop} {Q : List Value → Shared → Prop} (hc : X.calm = true) (I : Inv X pins σ H s) (h : Rd H a (.dK kvs)) (hQ : ∀ us s', Inv X pins σ H s' → Vals (kvs.map fun kv => kV kv.1) us → Q us s') : PySem.W.StarOf (model X.prog X.w) X.A E (.ref a) Q s := by
  obtain ⟨z, lo, vs, rel, dd⟩ := dk_rd I.hok h
  obtain ⟨ep, hat⟩ := dd.dictAt
  have ek : (kvs.map fun kv => kV kv.1) = vs.map fun p => kV p.1 := by
    have e := congrArg (List.map kV) rel.keys
    rw [List.map_map, List.map_map] at e
    exact e
  unfold PySem.W.StarOf notIterableAtAll
  refine wpAny_bind (wpAny_specialOf dd.typeIs PySem.F.slot_dict_iter.lookup (wpAny_pure ⟨rfl, ?_⟩))
  refine collect_src (PySem.W.kdl_dict (knd := mixKind X.prog X.w) (kvs := vs) (ep := ep) lo) (I.ok.hd hc) hat (by rw [← rel.length]; exact z) fun h' tk acc hk hacc => ?_
  refine hQ _ _ (I.kept (t' := tk) hk) ?_
  rw [ek]
  exact keys_at (by rw [Array.length_toList]; exact hacc.1) fun j v e => hacc.2 j v (by rw [← Array.getElem?_toList]; exact e)
/-- *d in a display: a dict's keys -/
def tStarD (te : TE) (t : TA) : TA := fun σ H Q => te σ H fun x H1 => ∃ p kvs, x = V.ref p ∧ Rd H1 p (.dK kvs) ∧ t σ H1 fun ys H2 => Q ((kvs.map fun kv => kV kv.1) ++ ys) H2
theorem pa_starD {e : Expr} {es : List Expr} {te : TE} {t : TA} {p : Pos} (hc : X.calm = true) (he : PE X e te) (hr : PA X es t) (hs : starEach (.Starred e p :: es) X.env = (true, eval e X.env) :: starEach es X.env := by rfl) : PA X (.Starred e p :: es) (tStarD te t) := by
  refine ⟨fun pos pins s σ H Q I h => ?_⟩
  refine PySem.W.items_star (thn (he.run pins s σ H _ I h) fun v s1 ⟨y, H1, I1, ry, a, kvs, ey, hx, q⟩ => ?_) hs
  subst ey
  obtain rfl : v = Value.ref a := ry
  exact star_dK hc I1 hx fun us s2 I2 rv => thn (hr.run pos pins s2 σ H1 _ I2 q) fun ws s3 ⟨vs, H3, I3, r3, q3⟩ => ⟨(kvs.map fun kv => kV kv.1) ++ vs, H3, I3, rv.append r3, q3⟩
end
end L2
namespace TW
open PySem PySem.Spec PyProof.Rows L2
/-- names of things, all words, none twice: nothing comes of checking them -/
def spNamesOk (K : PySem.W.Frag) : Sp := fun vs H Q _ => ∃ (a : Addr) (ns : List Str), vs = [.ref a] ∧ SqL K H a (ns.map V.str) ∧ ns.Nodup ∧ (∀ z ∈ ns, isW z = true) ∧ ns.length ≤ 64 ∧ ∀ H', Same H H' → Q .non H'
theorem isW_few {z : Str} (h : isW z = true) : z.length ≤ 1000 := by
  unfold isW at h
  have h2 := (Bool.and_eq_true_iff.mp (Bool.and_eq_true_iff.mp h).2).1
  have h3 := of_decide_eq_true h2
  omega
section
variable {P : Program} {w : World} {K : PySem.W.Frag} {mg : Str → Option Value} {base : Heap} {u : Value}
theorem scNamesD : FnScope ["names", "stood", "name"] ["names"] (defScope sNamesD) := ⟨rfl, rfl, rfl, by decide +kernel, rfl, by decide +kernel, by decide +kernel⟩
theorem ok_names {f fW : Addr} {fd fdW : FuncData} (F : Fun K "check_names" "check_names" sNamesD f fd) (mS : mg "set" = none) (G : FnOk P w K mg base CX0 1 fW fdW ["given"] (spWord K)) (mW : mg "is_word" = some (.ref fW)) (kW : PySem.W.keepIn K (.ref fW) = true) (bW : Binds K fdW ["given"] []) :
    FnOk P w K mg base CX0 2 f fd ["names"] (spNamesOk K) := by
  refine F.ok scNamesD (fun vs H Q E h => ?_) (fun cdv A outer s H vs Q E hr h => ?_)
  · obtain ⟨a, ns, rfl, _⟩ := h
    rfl
  · obtain ⟨a, ns, rfl, hS, nd, ww, few, k⟩ := h
    refine ⟨_, pss_cons (ps_set (i := 1) scNamesD.nd rfl (.inl rfl) (pe_callTy0 cr_set0K (by rfl) mS (by decide +kernel)))
      (pss_one (ps_for PassesOwn.never rfl (pi_list (pv 0)) (pg_name (i := 2) scNamesD.nd rfl (Or.inl rfl))
        (pss_cons (ps_if (PW.pt (pw_or (pt_not (pt_val (pe_call G hr rfl mW kW bW .nil pass0 (pa_cons (pv 2) pa_nil)))) (pw_or1 (pt_cmpR or_sinK (pv 2) (pv 1) (by rfl))))) (pss_one ps_never) pss_nil)
          (pss_one (ps_expr (pe_saddK (pv 1) (pa_cons (pv 2) pa_nil))))))), ?_⟩
    refine ⟨rfl, fun p hp => ?_⟩
    have s1 : Same H (upd H p (SetK P w p (fun _ => false) 0)) := same_new hp
    refine ⟨_, rfl, a, rfl, ⟨_, s1.seq hS⟩, ?_⟩
    refine for_list (K := K) (a := a) (xs := ns.map V.str) (fun j σ H' => ∃ (q : Option V) (S : Key → Bool), σ = [some (.ref a), some (.ref p), q] ∧ Same H H' ∧ H' p = some (SetK P w p S j) ∧ ∀ z, S (Sum.inr z) = true → z ∈ ns.take j)
      ⟨_, _, rfl, s1, upd_same, fun z e => by cases e⟩ (fun j σ H' _ ⟨_, _, _, z, _⟩ => z.seq hS) ?_ ?_
    · rintro j x σ H4 hx ⟨q, S, rfl, s4, h4, mem⟩
      obtain ⟨z, hz, rfl⟩ : ∃ z, ns[j]? = some z ∧ x = V.str z := by
        rw [List.getElem?_map] at hx
        obtain ⟨z, h1, h2⟩ := Option.map_eq_some_iff.mp hx
        exact ⟨z, h1, h2.symm⟩
      have hj := (List.getElem?_eq_some_iff.mp hz).1
      have zw := ww z (List.mem_of_getElem? hz)
      have no : S (Sum.inr z) = false := by
        cases e : S (Sum.inr z) with
        | false => rfl
        | true =>
          obtain ⟨i, hi, e2⟩ := List.mem_iff_getElem.mp (mem z e)
          rw [List.length_take] at hi
          rw [List.getElem_take] at e2
          have lt : i < j := Nat.lt_of_lt_of_le hi (Nat.min_le_left _ _)
          exact absurd (e2.trans (List.getElem?_eq_some_iff.mp hz).2.symm) (List.pairwise_iff_getElem.mp nd i j (Nat.lt_trans lt hj) hj lt)
      refine ⟨_, rfl, .str z, true, rfl, .inl ⟨z, rfl, isW_few zw, zw.symm⟩, fun H5 s5 => ⟨_, rfl, ?_⟩⟩
      refine iteF ?_
      refine ⟨_, rfl, _, rfl, Sum.inr z, p, S, j, rfl, rfl, s5 _ _ h4, _, rfl, ?_⟩
      rw [show (if false = true then !S (Sum.inr z) else S (Sum.inr z)) = false from no]
      refine iteF ?_
      refine ⟨_, rfl, ⟨p, S, j, rfl, s5 _ _ h4⟩, _, rfl, p, Sum.inr z, S, j, rfl, rfl, s5 _ _ h4, ?_, ?_⟩
      · have lt : j + 1 ≤ 64 := Nat.le_trans hj few
        refine Nat.lt_of_le_of_lt lt ?_
        decide +kernel
      · refine ⟨_, _, rfl, fun b o e => ?_, by rw [upd_same, no]; rfl, fun y e => ?_⟩
        · rw [upd_ne (ne_of_none e hp)]
          exact s5 _ _ (s4 _ _ e)
        · rw [take_one hz]
          rcases Bool.or_eq_true_iff.mp e with e | e
          · exact List.mem_append_left _ (mem y e)
          · have q := Sum.inr.inj (of_decide_eq_true e)
            rw [q]
            exact List.mem_append_right _ (List.mem_singleton.mpr rfl)
    · rintro σ H4 ⟨q, S, rfl, s4, _⟩
      exact k _ s4
end
end TW
namespace L2
open PySem PySem.Spec PyProof.Rows
/-- tuple(x), x a list or a tuple -/
theorem call_tupU {X : Cx} : CallR X (.type "tuple") (fun xs H Q => ∃ (p : Addr) (ys : List V), xs = [.ref p] ∧ (SqL X.K H p ys ∨ SqT X.K H p ys) ∧ ∀ t G, Same H G → SqT X.K G t ys → Q (.ref t) G) := by
  intro pins s σ H xs us Q I r h
  obtain ⟨p, ys, e, h, k⟩ := h
  refine call_tuple_of pins s σ H xs us Q I r ⟨p, ys, e, ?_⟩
  rcases h with h | h
  · exact .inl ⟨h, fun l hl => k l _ (fun b u z => by rw [upd_ne (ne_of_none z hl)]; exact z) (SqT.of upd_same)⟩
  · exact .inr ⟨h, k p _ (Same.refl _) h⟩
theorem fnOk_imp {P : Program} {w : World} {K : PySem.W.Frag} {mg : Str → Option Value} {base : Heap} {CX : CXT} {k : Nat} {f : Addr} {fd : FuncData} {ps : List Str} {sp sp' : Sp} (h : ∀ vs H Q E, sp' vs H Q E → sp vs H Q E) (F : FnOk P w K mg base CX k f fd ps sp) : FnOk P w K mg base CX k f fd ps sp' :=
  ⟨fun vs H Q E z => F.len _ _ _ _ (h _ _ _ _ z), fun A outer s H args us vs Q E hr he hb hv hs => F.run A outer s H args us vs Q E hr he hb hv (h _ _ _ _ hs)⟩
end L2
namespace TW
open PySem PySem.Spec PyProof.Rows L2
def spCopU : Sp := fun vs H Q _ => ∃ (v : V) (kvs : List (Key × V)), vs = [v] ∧ ((v = .non ∧ kvs = []) ∨ ∃ a, v = .ref a ∧ Rd H a (.dK kvs)) ∧ ∀ d, H d = none → Q (.ref d) (upd H d (.dK kvs))
theorem copU (vs : List V) (H : Hp) (Q : VK) (E : XK) (h : spCopU vs H Q E) : spCopied vs H Q E := by
  obtain ⟨v, kvs, rfl, h, k⟩ := h
  rcases h with ⟨rfl, rfl⟩ | ⟨a, rfl, h⟩
  · exact .inl ⟨rfl, k⟩
  · exact .inr ⟨a, kvs, rfl, h, k⟩
abbrev sSI : Stmt := inClass (top 63) 0
/-- a value, whatever comes beside the tuples -/
def VnS (K : PySem.W.Frag) (H : Hp) (n : Nat) (v : V) : Prop := ∀ H', (∀ a xs, SqT K H a xs → SqT K H' a xs) → Vn K H' n v true
/-- a size of a belt -/
def SizeV (v : V) : Prop := v = .non ∨ ∃ i : Int, v = .int i ∧ 1 ≤ i
theorem sqT_but {K : PySem.W.Frag} {H H' : Hp} {d a : Addr} {xs : List V} {o : HO} (hd : H d = some o) (no : ∀ ys, o ≠ .tup ys) (nf : ∀ ob ys, o ≠ .frz ob (.tup ys)) (keep : ∀ b u, b ≠ d → H b = some u → H' b = some u) (h : SqT K H a xs) : SqT K H' a xs := by
  rcases h with (h | ⟨ob, h⟩) | h
  · refine .inl (.inl (keep a _ (fun e => ?_) h))
    subst e
    rw [hd] at h
    exact no xs (Option.some.inj h)
  · refine .inl (.inr ⟨ob, keep a _ (fun e => ?_) h⟩)
    subst e
    rw [hd] at h
    exact nf ob xs (Option.some.inj h)
  · exact .inr h
theorem rd_but {H H' : Hp} {d a : Addr} {kvs : List (Key × V)} {o : HO} (hd : H d = some o) (no : o ≠ .dK kvs) (nf : ∀ ob, o ≠ .frz ob (.dK kvs)) (keep : ∀ b u, b ≠ d → H b = some u → H' b = some u) (h : Rd H a (.dK kvs)) : Rd H' a (.dK kvs) := by
  rcases h with h | ⟨ob, h⟩
  · refine .inl (keep a _ (fun e => ?_) h)
    subst e
    rw [hd] at h
    exact no (Option.some.inj h)
  · refine .inr ⟨ob, keep a _ (fun e => ?_) h⟩
    subst e
    rw [hd] at h
    exact nf ob (Option.some.inj h)
theorem sqL_but {K : PySem.W.Frag} {H H' : Hp} {d a : Addr} {xs : List V} {o : HO} (hd : H d = some o) (no : ∀ ys, o ≠ .lst ys) (nf : ∀ ob ys, o ≠ .frz ob (.lst ys)) (keep : ∀ b u, b ≠ d → H b = some u → H' b = some u) (h : SqL K H a xs) : SqL K H' a xs := by
  rcases h with (h | ⟨ob, h⟩) | h
  · refine .inl (.inl (keep a _ (fun e => ?_) h))
    subst e
    rw [hd] at h
    exact no xs (Option.some.inj h)
  · refine .inl (.inr ⟨ob, keep a _ (fun e => ?_) h⟩)
    subst e
    rw [hd] at h
    exact nf ob xs (Option.some.inj h)
  · exact .inr h
/-- all but the object at d stand -/
def But (d : Addr) (H H' : Hp) : Prop := ∀ b o, b ≠ d → H b = some o → H' b = some o
theorem But.of {H H' : Hp} {d : Addr} (e : Same H H') : But d H H' := fun b o _ h => e b o h
theorem But.trans {H H' H'' : Hp} {d : Addr} (a : But d H H') (b : But d H' H'') : But d H H'' := fun c o n h => b c o n (a c o n h)
theorem But.put {H : Hp} {d : Addr} {o : HO} : But d H (upd H d o) := fun b u n h => by
  rw [upd_ne n]
  exact h
theorem whl_int {K : PySem.W.Frag} {H : Hp} {i : Int} : Whl K H (.int i) true := ⟨"int", true, false, .base (.int i), by decide +kernel, fun _ => by decide +kernel, rfl⟩
def sF4 (v0 v1 v2 v3 : V) : List (Str × V) := [("works", v0), ("cells", v1), ("locks", v2), ("belts", v3)]
theorem sF4_get0 {v0 v1 v2 v3 : V} : (sF4 v0 v1 v2 v3).lookup ("works" : Str) = some v0 := by
  unfold sF4
  rw [lookup_put, if_pos rfl]
theorem sF4_get1 {v0 v1 v2 v3 : V} : (sF4 v0 v1 v2 v3).lookup ("cells" : Str) = some v1 := by
  unfold sF4
  rw [lookup_put, if_neg sF_n1_0, lookup_put, if_pos rfl]
theorem sF4_get2 {v0 v1 v2 v3 : V} : (sF4 v0 v1 v2 v3).lookup ("locks" : Str) = some v2 := by
  unfold sF4
  rw [lookup_put, if_neg sF_n2_0, lookup_put, if_neg sF_n2_1, lookup_put, if_pos rfl]
theorem sF4_get3 {v0 v1 v2 v3 : V} : (sF4 v0 v1 v2 v3).lookup ("belts" : Str) = some v3 := by
  unfold sF4
  rw [lookup_put, if_neg sF_n3_0, lookup_put, if_neg sF_n3_1, lookup_put, if_neg sF_n3_2, lookup_put, if_pos rfl]
/-- what a shop is made of -/
structure SIn where
  ws : List V
  cs : List (Key × V)
  cN : List Str
  lN : List Str
  bs : List (Key × V)
  bN : List Str
  lo : Int
  mo : Int
/-- a shop half made -/
structure Mid (K : PySem.W.Frag) (CS : Addr) (G : Hp) (sh dx wt cd lt bd : Addr) (S : SIn) : Prop where
  ob : G sh = some (.ins CS dx (sF4 (.ref wt) (.ref cd) (.ref lt) (.ref bd)))
  w : SqT K G wt S.ws
  c : G cd = some (.dK S.cs)
  l : SqT K G lt (S.lN.map V.str)
  b : G bd = some (.dK S.bs)
theorem Mid.same {K : PySem.W.Frag} {CS : Addr} {G G' : Hp} {sh dx wt cd lt bd : Addr} {S : SIn} (e : Same G G') (M : Mid K CS G sh dx wt cd lt bd S) : Mid K CS G' sh dx wt cd lt bd S := ⟨e _ _ M.ob, seqT_same e M.w, e _ _ M.c, seqT_same e M.l, e _ _ M.b⟩
/-- what is handed in, rightly -/
structure Good (K : PySem.W.Frag) (H : Hp) (n : Nat) (S : SIn) (wv cv lv bv : V) : Prop where
  w : ∃ a, wv = .ref a ∧ (SqL K H a S.ws ∨ SqT K H a S.ws)
  w1 : 1 ≤ S.ws.length
  w4 : S.ws.length ≤ 4
  c : (cv = .non ∧ S.cs = []) ∨ ∃ a, cv = .ref a ∧ Rd H a (.dK S.cs)
  cn : S.cs.map (·.1) = S.cN.map Sum.inr
  l : ∃ a, lv = .ref a ∧ (SqL K H a (S.lN.map V.str) ∨ SqT K H a (S.lN.map V.str))
  b : (bv = .non ∧ S.bs = []) ∨ ∃ a, bv = .ref a ∧ Rd H a (.dK S.bs)
  bn : S.bs.map (·.1) = S.bN.map Sum.inr
  nd : (S.cN ++ S.lN ++ S.bN).Nodup
  ww : ∀ z ∈ S.cN ++ S.lN ++ S.bN, isW z = true
  few : (S.cN ++ S.lN ++ S.bN).length ≤ 64
  cv : ∀ kv ∈ S.cs, VnS K H n kv.2
  bz : ∀ kv ∈ S.bs, SizeV kv.2
  l1 : 1 ≤ S.lo ∧ S.lo ≤ 40
  l2 : 1 ≤ S.mo ∧ S.mo ≤ 2000
/-- the shop of them -/
def SIn.ss (S : SIn) (dx wt cd lt bd : Addr) : SS := ⟨dx, wt, S.ws, cd, S.cs, S.cN, lt, S.lN, bd, S.bs, S.bN, (S.ws.length : Nat), S.lo, S.mo⟩
/-- a shop is made: its things are copied, what stood stands -/
def spSI (K : PySem.W.Frag) (CS : Addr) (n : Nat) : Sp := fun vs H Q _ => ∃ (sh dx : Addr) (S : SIn) (wv cv lv bv : V), vs = [.ref sh, wv, cv, lv, bv, .int S.lo, .int S.mo] ∧ H sh = some (.ins CS dx []) ∧ Good K H n S wv cv lv bv ∧
  ∀ (wt cd lt bd : Addr) (G : Hp), (∀ b o, b ≠ sh → H b = some o → G b = some o) → ShopAt K CS G sh (S.ss dx wt cd lt bd) → Q .non G
theorem ins_ntup {C dx : Addr} {fs : List (Str × V)} : (∀ ys, HO.ins C dx fs ≠ .tup ys) ∧ ∀ ob ys, HO.ins C dx fs ≠ .frz ob (.tup ys) := ⟨fun _ z => (nomatch z), fun _ _ z => (nomatch z)⟩
theorem dk_ntup {kvs : List (Key × V)} : (∀ ys, HO.dK kvs ≠ .tup ys) ∧ ∀ ob ys, HO.dK kvs ≠ .frz ob (.tup ys) := ⟨fun _ z => (nomatch z), fun _ _ z => (nomatch z)⟩
section
variable {P : Program} {w : World} {K : PySem.W.Frag} {mg : Str → Option Value} {base : Heap} {CS CB1 CB2 CB3 CB4 CB5 : Addr} {n : Nat} {u1 u2 : Value}
theorem scSI : FnScope ["self", "works", "cells", "locks", "belts", "longest", "most", "value", "size"] ["self", "works", "cells", "locks", "belts", "longest", "most"] (defScope sSI) := ⟨rfl, rfl, rfl, by decide +kernel, rfl, by decide +kernel, by decide +kernel⟩
theorem ok_SI {f fC fW fN fV fS fL : Addr} {fd fdC fdW fdN fdV fdS fdL : FuncData} (F : Fun K "__init__" "Shop.__init__" sSI f fd) (B : Blt mg) (X : STxt K CS)
    (GC : FnOk P w K mg base CX0 1 fC fdC ["table"] spCopied) (mC : mg "copied" = some (.ref fC)) (kC : PySem.W.keepIn K (.ref fC) = true) (bC : Binds K fdC ["table"] [])
    (GW : FnOk P w K mg base (L2.CX P w) 3 fW fdW ["works"] (spCkW K CB1 "count")) (mW : mg "check_works" = some (.ref fW)) (kW : PySem.W.keepIn K (.ref fW) = true) (bW : Binds K fdW ["works"] [])
    (GN : FnOk P w K mg base CX0 2 fN fdN ["names"] (spNamesOk K)) (mN : mg "check_names" = some (.ref fN)) (kN : PySem.W.keepIn K (.ref fN) = true) (bN : Binds K fdN ["names"] [])
    (GV : FnOk P w K mg base (L2.CX P w) (n + 3) fV fdV ["given"] (spCkV K CB2 n)) (mV : mg "check_value" = some (.ref fV)) (kV : PySem.W.keepIn K (.ref fV) = true) (bV : Binds K fdV ["given"] [])
    (GS : FnOk P w K mg base (L2.CX P w) 3 fS fdS ["size"] (spCkS K CB3 "size")) (mS : mg "check_size" = some (.ref fS)) (kS : PySem.W.keepIn K (.ref fS) = true) (bS : Binds K fdS ["size"] [])
    (GL : FnOk P w K mg base (L2.CX P w) 3 fL fdL ["limit", "top"] (spCkL K CB4 "limit")) (mL : mg "check_limit" = some (.ref fL)) (kL : PySem.W.keepIn K (.ref fL) = true) (bL : Binds K fdL ["limit", "top"] [])
    (m1 : mg "TOP_LONGEST" = some u1) (r1 : RelV (.int 40) u1) (m2 : mg "TOP_MOST" = some u2) (r2 : RelV (.int 2000) u2) :
    FnOk P w K mg base CX0 (n + 4) f fd ["self", "works", "cells", "locks", "belts", "longest", "most"] (spSI K CS n) := by
  refine F.ok scSI (fun vs H Q E h => ?_) (fun cdv A outer s H vs Q E hr h => ?_)
  · obtain ⟨sh, dx, S, wv, cv, lv, bv, rfl, _⟩ := h
    rfl
  · obtain ⟨sh, dx, S, wv, cv, lv, bv, rfl, ho, Z, k⟩ := h
    have hr1 : Room 1 _ := hr.mono (by omega)
    have hr2 : Room 2 _ := hr.mono (by omega)
    have hr3 : Room 3 _ := hr.mono (by omega)
    have hrV : Room (n + 3) _ := hr.mono (by omega)
    refine ⟨_, pss_cons (ps_fld (pv 0) (pe_callTy call_tupU (by rfl) B.tuple (by decide +kernel) (pa_cons (pv 1) pa_nil)) rfl)
      (pss_cons (ps_fld (pv 0) (pe_call (fnOk_imp copU GC) hr1 rfl mC kC bC .nil pass0 (pa_cons (pv 2) pa_nil)) rfl)
      (pss_cons (ps_fld (pv 0) (pe_callTy call_tupU (by rfl) B.tuple (by decide +kernel) (pa_cons (pv 3) pa_nil)) rfl)
      (pss_cons (ps_fld (pv 0) (pe_call (fnOk_imp copU GC) hr1 rfl mC kC bC .nil pass0 (pa_cons (pv 4) pa_nil)) rfl)
      (pss_cons (ps_expr (pe_call GW hr3 rfl mW kW bW .nil passN (pa_cons (pe_fld (pv 0) rfl) pa_nil)))
      (pss_cons (ps_expr (pe_call GN hr2 rfl mN kN bN .nil pass0 (pa_cons (pe_lst (pa_starD rfl (pe_fld (pv 0) rfl) (StX.pa_star (pe_fld (pv 0) rfl) (pa_starD rfl (pe_fld (pv 0) rfl) pa_nil)))) pa_nil)))
      (pss_cons (ps_lock (ps_for PassesOwn.never rfl (pi_values (pe_fld (pv 0) rfl)) (pg_name (i := 7) scSI.nd rfl (Or.inl rfl)) (pss_one (ps_expr (pe_call GV hrV rfl mV kV bV .nil passN (pa_cons (pv 7) pa_nil))))))
      (pss_cons (ps_lock (ps_for PassesOwn.never rfl (pi_values (pe_fld (pv 0) rfl)) (pg_name (i := 8) scSI.nd rfl (Or.inl rfl)) (pss_one (ps_expr (pe_call GS hr3 rfl mS kS bS .nil passN (pa_cons (pv 8) pa_nil))))))
      (pss_cons (ps_expr (pe_call GL hr3 rfl mL kL bL .nil passN (pa_cons (pv 5) (pa_cons (pe_glob (v := .int 40) rfl m1 r1) pa_nil))))
      (pss_cons (ps_expr (pe_call GL hr3 rfl mL kL bL .nil passN (pa_cons (pv 6) (pa_cons (pe_glob (v := .int 2000) rfl m2 r2) pa_nil))))
      (pss_cons (ps_fld (pv 0) (pe_callB call_len_seq (by rfl) B.len PySem.boot_len (pa_cons (pe_fld (pv 0) rfl) pa_nil)) rfl)
      (pss_cons (ps_fld (pv 0) (pv 5) rfl) (pss_one (ps_fld (pv 0) (pv 6) rfl))))))))))))), ?_⟩
    obtain ⟨wa, rfl, hw⟩ := Z.w
    obtain ⟨la, rfl, hl⟩ := Z.l
    refine ⟨_, rfl, wa, S.ws, rfl, hw, fun wt G1 s1 w1 => ?_⟩
    refine ⟨_, rfl, sh, CS, dx, _, rfl, s1 _ _ ho, X.cl, X.works, (by show 0 < 1000; decide), ?_⟩
    rw [sF_make0]
    have b1 : But sh H (upd G1 sh (.ins CS dx [("works", .ref wt)])) := (But.of s1).trans .put
    have w2 : SqT K (upd G1 sh (.ins CS dx [("works", .ref wt)])) wt S.ws := sqT_but (s1 _ _ ho) ins_ntup.1 ins_ntup.2 But.put w1
    have o2 : (upd G1 sh (.ins CS dx [("works", .ref wt)])) sh = some (.ins CS dx [("works", .ref wt)]) := upd_same
    generalize upd G1 sh (.ins CS dx [("works", .ref wt)]) = A1 at b1 w2 o2 ⊢
    have c2 : (cv = .non ∧ S.cs = []) ∨ ∃ a, cv = .ref a ∧ Rd A1 a (.dK S.cs) := Z.c.imp id fun ⟨a, e, h⟩ => ⟨a, e, rd_but ho (fun z => (nomatch z)) (fun _ z => (nomatch z)) b1 h⟩
    refine ⟨_, rfl, cv, S.cs, rfl, c2, fun cd hcd => ?_⟩
    refine ⟨_, rfl, sh, CS, dx, _, rfl, (same_new hcd) _ _ o2, X.cl, X.cells, (by show 1 < 1000; decide), ?_⟩
    rw [sF_make1]
    have b2 : But sh H (upd (upd A1 cd (.dK S.cs)) sh (.ins CS dx [("works", .ref wt), ("cells", .ref cd)])) := (b1.trans (But.of (same_new hcd))).trans .put
    have w3 : SqT K (upd (upd A1 cd (.dK S.cs)) sh (.ins CS dx [("works", .ref wt), ("cells", .ref cd)])) wt S.ws := sqT_but ((same_new hcd) _ _ o2) ins_ntup.1 ins_ntup.2 But.put (seqT_same (same_new hcd) w2)
    have ne1 : cd ≠ sh := fun e => by
      rw [e, o2] at hcd
      cases hcd
    have c3 : (upd (upd A1 cd (.dK S.cs)) sh (.ins CS dx [("works", .ref wt), ("cells", .ref cd)])) cd = some (.dK S.cs) := by
      rw [upd_ne ne1]
      exact upd_same
    have o3 : (upd (upd A1 cd (.dK S.cs)) sh (.ins CS dx [("works", .ref wt), ("cells", .ref cd)])) sh = some (.ins CS dx [("works", .ref wt), ("cells", .ref cd)]) := upd_same
    generalize upd (upd A1 cd (.dK S.cs)) sh (.ins CS dx [("works", .ref wt), ("cells", .ref cd)]) = A2 at b2 w3 c3 o3 ⊢
    have hl2 : SqL K A2 la (S.lN.map V.str) ∨ SqT K A2 la (S.lN.map V.str) := hl.imp (fun h => sqL_but ho (fun _ z => (nomatch z)) (fun _ _ z => (nomatch z)) b2 h) (fun h => sqT_but ho ins_ntup.1 ins_ntup.2 b2 h)
    refine ⟨_, rfl, la, _, rfl, hl2, fun lt G3 s3 l3 => ?_⟩
    refine ⟨_, rfl, sh, CS, dx, _, rfl, s3 _ _ o3, X.cl, X.locks, (by show 2 < 1000; decide), ?_⟩
    rw [sF_make2]
    have b3 : But sh H (upd G3 sh (.ins CS dx [("works", .ref wt), ("cells", .ref cd), ("locks", .ref lt)])) := (b2.trans (But.of s3)).trans .put
    have w4 : SqT K (upd G3 sh (.ins CS dx [("works", .ref wt), ("cells", .ref cd), ("locks", .ref lt)])) wt S.ws := sqT_but (s3 _ _ o3) ins_ntup.1 ins_ntup.2 But.put (seqT_same s3 w3)
    have l4 : SqT K (upd G3 sh (.ins CS dx [("works", .ref wt), ("cells", .ref cd), ("locks", .ref lt)])) lt (S.lN.map V.str) := sqT_but (s3 _ _ o3) ins_ntup.1 ins_ntup.2 But.put l3
    have c4 : (upd G3 sh (.ins CS dx [("works", .ref wt), ("cells", .ref cd), ("locks", .ref lt)])) cd = some (.dK S.cs) := by
      rw [upd_ne ne1]
      exact s3 _ _ c3
    have o4 : (upd G3 sh (.ins CS dx [("works", .ref wt), ("cells", .ref cd), ("locks", .ref lt)])) sh = some (.ins CS dx [("works", .ref wt), ("cells", .ref cd), ("locks", .ref lt)]) := upd_same
    generalize upd G3 sh (.ins CS dx [("works", .ref wt), ("cells", .ref cd), ("locks", .ref lt)]) = A3 at b3 w4 l4 c4 o4 ⊢
    have c5 : (bv = .non ∧ S.bs = []) ∨ ∃ a, bv = .ref a ∧ Rd A3 a (.dK S.bs) := Z.b.imp id fun ⟨a, e, h⟩ => ⟨a, e, rd_but ho (fun z => (nomatch z)) (fun _ z => (nomatch z)) b3 h⟩
    refine ⟨_, rfl, bv, S.bs, rfl, c5, fun bd hbd => ?_⟩
    refine ⟨_, rfl, sh, CS, dx, _, rfl, (same_new hbd) _ _ o4, X.cl, X.belts, (by show 3 < 1000; decide), ?_⟩
    rw [sF_make3]
    rw [show ([("works", V.ref wt), ("cells", V.ref cd), ("locks", V.ref lt), ("belts", V.ref bd)] : List (Str × V)) = sF4 (.ref wt) (.ref cd) (.ref lt) (.ref bd) from rfl]
    have b4 : But sh H (upd (upd A3 bd (.dK S.bs)) sh (.ins CS dx (sF4 (.ref wt) (.ref cd) (.ref lt) (.ref bd)))) := (b3.trans (But.of (same_new hbd))).trans .put
    have ne2 : bd ≠ sh := fun e => by
      rw [e, o4] at hbd
      cases hbd
    have M : Mid K CS (upd (upd A3 bd (.dK S.bs)) sh (.ins CS dx (sF4 (.ref wt) (.ref cd) (.ref lt) (.ref bd)))) sh dx wt cd lt bd S := by
      have z := same_new (o := .dK S.bs) hbd
      refine ⟨upd_same, sqT_but (z _ _ o4) ins_ntup.1 ins_ntup.2 But.put (seqT_same z w4), ?_, sqT_but (z _ _ o4) ins_ntup.1 ins_ntup.2 But.put (seqT_same z l4), ?_⟩
      · rw [upd_ne ne1]
        exact z _ _ c4
      · rw [upd_ne ne2]
        exact upd_same
    have ne3 : cd ≠ bd := ne_of_none c4 hbd
    generalize upd (upd A3 bd (.dK S.bs)) sh (.ins CS dx (sF4 (.ref wt) (.ref cd) (.ref lt) (.ref bd))) = A4 at b4 M ⊢
    have ks : ∀ {kvs : List (Key × V)} {ns : List Str}, kvs.map (·.1) = ns.map Sum.inr → (kvs.map fun kv => L2.kV kv.1) = ns.map V.str := fun {kvs ns} e => by
      have z := congrArg (List.map L2.kV) e
      rw [List.map_map, List.map_map] at z
      exact z
    refine ⟨_, rfl, sh, CS, dx, _, _, rfl, M.ob, X.cl, X.works, sF4_get0, wt, S.ws, rfl, M.w, fun _ => ?_, fun z => absurd ⟨Z.w1, Z.w4⟩ z⟩
    refine ⟨_, rfl, sh, CS, dx, _, _, rfl, M.ob, X.cl, X.cells, sF4_get1, cd, S.cs, rfl, .inl M.c, _, rfl, sh, CS, dx, _, _, rfl, M.ob, X.cl, X.locks, sF4_get2, lt, _, rfl, .inl M.l, _, rfl, sh, CS, dx, _, _, rfl, M.ob, X.cl, X.belts, sF4_get3, bd, S.bs, rfl, .inl M.b, ?_, fun p hp => ?_⟩
    · have en : ((S.cs.map fun (kv : Key × V) => L2.kV kv.1) ++ (S.lN.map V.str ++ ((S.bs.map fun (kv : Key × V) => L2.kV kv.1) ++ []))).length ≤ 64 := by
        rw [ks Z.cn, ks Z.bn, List.append_nil, List.length_append, List.length_append, List.length_map, List.length_map, List.length_map]
        have z := Z.few
        rw [List.length_append, List.length_append] at z
        omega
      exact Nat.le_trans en (small_sz (n := 64) (by decide))
    have en : (S.cs.map fun (kv : Key × V) => L2.kV kv.1) ++ (S.lN.map V.str ++ ((S.bs.map fun (kv : Key × V) => L2.kV kv.1) ++ [])) = (S.cN ++ S.lN ++ S.bN).map V.str := by
      rw [ks Z.cn, ks Z.bn, List.append_nil, List.map_append, List.map_append, List.append_assoc]
    rw [en]
    refine ⟨p, _, rfl, SqL.of upd_same, Z.nd, Z.ww, Z.few, fun A5 s5 => ?_⟩
    have s6 : Same A4 A5 := (same_new hp).trans s5
    have M5 := M.same s6
    have b5 := b4.trans (But.of s6)
    refine ⟨cd, _, M5.c, trivial, fun od => ?_⟩
    have hsd : ∀ {o : HO}, (upd A5 cd o) sh = some (.ins CS dx (sF4 (.ref wt) (.ref cd) (.ref lt) (.ref bd))) := fun {o} => by
      rw [upd_ne (Ne.symm ne1)]
      exact M5.ob
    refine ⟨_, rfl, sh, CS, dx, _, _, rfl, hsd, X.cl, X.cells, sF4_get1, cd, od, _, rfl, upd_same, ?_⟩
    refine for_it walk_values (fun j σ H' => ∃ q : Option V, σ = [some (.ref sh), some (.ref wa), some cv, some (.ref la), some bv, some (.int S.lo), some (.int S.mo), q, none] ∧ (∀ b o, b ≠ cd → A5 b = some o → H' b = some o) ∧ H' cd = some (.frz od (.dK S.cs)))
      ⟨none, rfl, fun b o ne e => by rw [upd_ne ne]; exact e, upd_same⟩ (fun j σ H' _ ⟨_, _, _, z⟩ => z) ?_ ?_
    · rintro j x σ H6 H7 hj ⟨q, rfl, k6, f6⟩ ⟨rfl, kk, hx⟩
      have vn : Vn K H7 n x true := Z.cv (kk, x) (List.mem_of_getElem? hx) H7 fun a xs h => sqT_but M5.c dk_ntup.1 dk_ntup.2 k6 (sqT_but ho ins_ntup.1 ins_ntup.2 b5 h)
      refine ⟨_, rfl, x, true, rfl, vn, fun H8 s8 => ⟨fun _ => ?_, fun z => (nomatch z)⟩⟩
      exact ⟨_, rfl, fun b o ne e => s8 _ _ (k6 b o ne e), s8 _ _ f6⟩
    · rintro σ H6 ⟨q, rfl, k6, f6⟩
      refine ⟨f6, ?_⟩
      have s7 : Same A5 (upd H6 cd (.dK S.cs)) := fun b o e => by
        by_cases c : b = cd
        · subst c
          rw [M5.c] at e
          rw [upd_same]
          exact e
        · rw [upd_ne c]
          exact k6 b o c e
      have M6 := M5.same s7
      have b6 := b5.trans (But.of s7)
      generalize upd H6 cd (.dK S.cs) = A6 at s7 M6 b6 ⊢
      refine ⟨bd, _, M6.b, trivial, fun od2 => ?_⟩
      have hsd2 : ∀ {o : HO}, (upd A6 bd o) sh = some (.ins CS dx (sF4 (.ref wt) (.ref cd) (.ref lt) (.ref bd))) := fun {o} => by
        rw [upd_ne (Ne.symm ne2)]
        exact M6.ob
      refine ⟨_, rfl, sh, CS, dx, _, _, rfl, hsd2, X.cl, X.belts, sF4_get3, bd, od2, _, rfl, upd_same, ?_⟩
      refine for_it walk_values (fun j σ H' => ∃ r : Option V, σ = [some (.ref sh), some (.ref wa), some cv, some (.ref la), some bv, some (.int S.lo), some (.int S.mo), q, r] ∧ (∀ b o, b ≠ bd → A6 b = some o → H' b = some o) ∧ H' bd = some (.frz od2 (.dK S.bs)))
        ⟨none, rfl, fun b o ne e => by rw [upd_ne ne]; exact e, upd_same⟩ (fun j σ H' _ ⟨_, _, _, z⟩ => z) ?_ ?_
      · rintro j x σ H8 H9 hj ⟨r, rfl, k8, f8⟩ ⟨rfl, kk, hx⟩
        have z := Z.bz (kk, x) (List.mem_of_getElem? hx)
        have nxt : ∃ r : Option V, List.set [some (V.ref sh), some (.ref wa), some cv, some (.ref la), some bv, some (.int S.lo), some (.int S.mo), q, r] 8 (some x) = [some (V.ref sh), some (.ref wa), some cv, some (.ref la), some bv, some (.int S.lo), some (.int S.mo), q, r] ∧ (∀ b o, b ≠ bd → A6 b = some o → H9 b = some o) ∧ H9 bd = some (.frz od2 (.dK S.bs)) := ⟨_, rfl, k8, f8⟩
        refine ⟨_, rfl, x, rfl, ?_⟩
        rcases z with z | ⟨i, z, hi⟩
        · exact .inl ⟨z, nxt⟩
        · refine .inr ⟨fun e => ?_, true, ?_, fun e => (nomatch e), fun _ => ⟨i, z, fun _ => nxt, fun e => absurd hi (by omega)⟩⟩
          · rw [show x = V.int i from z] at e
            cases e
          · rw [show x = V.int i from z]
            exact whl_int
      · rintro σ H8 ⟨r, rfl, k8, f8⟩
        refine ⟨f8, ?_⟩
        have s9 : Same A6 (upd H8 bd (.dK S.bs)) := fun b o e => by
          by_cases c : b = bd
          · subst c
            rw [M6.b] at e
            rw [upd_same]
            exact e
          · rw [upd_ne c]
            exact k8 b o c e
        have M9 := M6.same s9
        have b9 := b6.trans (But.of s9)
        generalize upd H8 bd (.dK S.bs) = A9 at s9 M9 b9 ⊢
        refine ⟨_, rfl, _, 40, true, rfl, whl_int, fun e => (nomatch e), fun _ => ⟨S.lo, rfl, fun _ => ?_, fun e => absurd Z.l1 e⟩⟩
        refine ⟨_, rfl, _, 2000, true, rfl, whl_int, fun e => (nomatch e), fun _ => ⟨S.mo, rfl, fun _ => ?_, fun e => absurd Z.l2 e⟩⟩
        refine ⟨_, rfl, sh, CS, dx, _, _, rfl, M9.ob, X.cl, X.works, sF4_get0, wt, S.ws, rfl, .inr M9.w, ?_⟩
        refine ⟨_, rfl, sh, CS, dx, _, rfl, M9.ob, X.cl, X.many, (by show 4 < 1000; decide), ?_⟩
        rw [show putF "many" (V.int (S.ws.length : Nat)) (sF4 (.ref wt) (.ref cd) (.ref lt) (.ref bd)) = _ from sF_make4]
        refine ⟨_, rfl, _, rfl, sh, CS, dx, _, rfl, upd_same, X.cl, X.longest, (by show 5 < 1000; decide), ?_⟩
        rw [sF_make5, upd_upd]
        refine ⟨_, rfl, _, rfl, sh, CS, dx, _, rfl, upd_same, X.cl, X.most, (by show 6 < 1000; decide), ?_⟩
        rw [sF_make6, upd_upd]
        refine k wt cd lt bd _ (b9.trans .put) ⟨upd_same, sqT_but M9.ob ins_ntup.1 ins_ntup.2 But.put M9.w, ?_, Z.cn, sqT_but M9.ob ins_ntup.1 ins_ntup.2 But.put M9.l, ?_, Z.bn⟩
        · exact (upd_ne ne1).trans M9.c
        · exact (upd_ne ne2).trans M9.b
end
end TW
namespace TW
open PySem PySem.Spec PyProof.Rows L2
abbrev sPlay : Stmt := top 72
/-- what is noted behind j answers -/
def notesAt (rows : List Row) (ans : List V) : Nat → List (Key × V)
  | 0 => []
  | j + 1 => match rows[j]?, ans[j]? with
    | some r, some a => putK (notesAt rows ans j) (Sum.inl r.note) a
    | _, _ => notesAt rows ans j
theorem notes_next {rows : List Row} {ans : List V} {j : Nat} {r : Row} {a : V} (h1 : rows[j]? = some r) (h2 : ans[j]? = some a) : notesAt rows ans (j + 1) = putK (notesAt rows ans j) (Sum.inl r.note) a := by
  show (match rows[j]?, ans[j]? with
    | some r, some a => putK (notesAt rows ans j) (Sum.inl r.note) a
    | _, _ => notesAt rows ans j) = _
  rw [h1, h2]
/-- rows of wishes about cells -/
structure RowsOk (K : PySem.W.Frag) (H : Hp) (n : Nat) (names : List Str) (rows : List Row) : Prop where
  kind : ∀ r ∈ rows, ∀ ns, CellKind r.kind (r.parts.map (partV ns))
  name : ∀ r ∈ rows, r.name ∈ names
  parts : ∀ r ∈ rows, r.parts.length ≤ 100
  vals : ∀ r ∈ rows, ∀ v, Part.value v ∈ r.parts → VnS K H n v
  few : rows.length ≤ 1000
/-- a list of rows -/
structure RowsAt (K : PySem.W.Frag) (H : Hp) (rl : Addr) (rows : List Row) : Prop where
  ex : ∃ xs, H rl = some (.lst xs) ∧ xs.length = rows.length ∧ ∀ (i : Nat) (x : V) (r : Row), xs[i]? = some x → rows[i]? = some r → RowAt K H x r
theorem RowsAt.same {K : PySem.W.Frag} {H H' : Hp} {rl : Addr} {rows : List Row} (e : Same H H') (h : RowsAt K H rl rows) : RowsAt K H' rl rows := by
  obtain ⟨xs, h1, h2, h3⟩ := h.ex
  exact ⟨xs, e _ _ h1, h2, fun i x r a b => (h3 i x r a b).tk fun _ _ z => seqT_same e z⟩
/-- what a work that goes through such rows comes to -/
def BPlay (K : PySem.W.Frag) (rows : List Row) : Beh := fun H ans pend fin words => words = [] ∧
  ((ans.length < rows.length ∧ fin = .non ∧ ∃ t r, rows[ans.length]? = some r ∧ pend = .ref t ∧ SqT K H t (rowWish (notesAt rows ans ans.length) r)) ∨
   (ans.length = rows.length ∧ pend = .non ∧ ∃ t, fin = .ref t ∧ SqT K H t [.str "told", .non]))
theorem bplay_s {K : PySem.W.Frag} {rows : List Row} : BehS K (BPlay K rows) := by
  intro H H' ans p e ws tk ⟨h0, h⟩
  rcases h with ⟨h1, h2, t, r, h3, h4, h5⟩ | ⟨h1, h2, t, h3, h4⟩
  · exact ⟨h0, .inl ⟨h1, h2, t, r, h3, h4, tk _ _ h5⟩⟩
  · exact ⟨h0, .inr ⟨h1, h2, t, h3, tk _ _ h4⟩⟩
theorem notes_vn {K : PySem.W.Frag} {H : Hp} {n : Nat} {rows : List Row} {ans : List V} (ha : ∀ a ∈ ans, VnS K H n a) : ∀ (j : Nat) (k : Int), VnS K H n (noted (notesAt rows ans j) k)
  | 0, k => fun _ _ => .int _ _
  | j + 1, k => by
    show VnS K H n (noted (match rows[j]?, ans[j]? with
      | some r, some a => putK (notesAt rows ans j) (Sum.inl r.note) a
      | _, _ => notesAt rows ans j) k)
    split
    · rename_i r a e1 e2
      unfold noted
      rw [valV_put]
      split
      · exact ha a (List.mem_of_getElem? e2)
      · exact notes_vn ha j k
    · exact notes_vn ha j k
theorem part_vn {K : PySem.W.Frag} {H : Hp} {n : Nat} {ns : List (Key × V)} {p : Part} (hn : ∀ k, VnS K H n (noted ns k)) (hv : ∀ v, p = .value v → VnS K H n v) : VnS K H n (partV ns p) := by
  cases p with
  | value v => exact hv v rfl
  | note k => exact hn k
  | plus k m =>
    show VnS K H n (match noted ns k with | .int i => .int (i + m) | v => v)
    have z := hn k
    generalize noted ns k = here at *
    cases here with
    | int i => exact fun _ _ => .int _ _
    | _ => exact z
def spPlay (K : PySem.W.Frag) (C CS CH : Addr) (n : Nat) : Sp := fun vs H Q E => ∃ (rl hd dx md wl sh an : Addr) (me : Int) (ans : List V) (rows : List Row) (S : SS) (H0 : Hp), vs = [.ref rl, .ref hd] ∧ RowsAt K H0 rl rows ∧ HandAt K C H hd dx (hs0 me sh an ans md wl) ∧ ShopAt K CS H0 sh S ∧ Base3 H0 hd md wl H ∧ RowsOk K H0 n S.beltN rows ∧ ans.length ≤ rows.length ∧ (∀ a ∈ ans, VnS K H0 n a) ∧
  (∀ H2 h2, HandAt K C H2 hd dx h2 → Keep3 hd md wl H H2 → h2.halted = true → BPlay K rows H2 ans h2.pend h2.fin h2.words → E (.ref CH) none H2) ∧
  (∀ H2 h2, HandAt K C H2 hd dx h2 → Keep3 hd md wl H H2 → h2.halted = false → h2.pend = .non → h2.words = [] → ans.length = rows.length → Q .non H2)
theorem put_len {ns : List (Key × V)} {k : Key} {v : V} : (putK ns k v).length ≤ ns.length + 1 := by
  unfold putK
  split
  · rw [List.length_map]
    omega
  · rw [List.length_append]
    exact Nat.le_refl _
theorem notes_len {rows : List Row} {ans : List V} : ∀ j, (notesAt rows ans j).length ≤ j
  | 0 => Nat.le_refl _
  | j + 1 => by
    show (match rows[j]?, ans[j]? with
      | some r, some a => putK (notesAt rows ans j) (Sum.inl r.note) a
      | _, _ => notesAt rows ans j).length ≤ j + 1
    have z := notes_len (rows := rows) (ans := ans) j
    split
    · exact Nat.le_trans put_len (by omega)
    · omega
theorem CellKind.ne {kind : Str} {args : List V} (h : CellKind kind args) : kind ≠ "say" ∧ kind ≠ "fail" ∧ kind ≠ "back" ∧ kind ≠ "skip" ∧ kind ≠ "rest" := by
  rcases h with ⟨rfl, _⟩ | ⟨rfl, _⟩ <;> decide +kernel
theorem rowWish_cell {ns : List (Key × V)} {r : Row} (h : r.kind ≠ "rest") : rowWish ns r = .str r.kind :: .str r.name :: r.parts.map (partV ns) := by
  unfold rowWish
  rw [if_neg h]
/-- a dict besides the hand is written -/
theorem HandAt.put {K : PySem.W.Frag} {C : Addr} {H : Hp} {hd dx nd : Addr} {h : HS} {ns ms : List (Key × V)} (A : HandAt K C H hd dx h) (d1 : hd ≠ nd) (d2 : h.md ≠ nd) (d3 : h.wl ≠ nd) (hn : H nd = some (.dK ns)) : HandAt K C (upd H nd (.dK ms)) hd dx h :=
  ⟨(upd_ne d1).trans A.ob, sqT_but hn (fun _ z => (nomatch z)) (fun _ _ z => (nomatch z)) But.put A.a, (upd_ne d2).trans A.m, (upd_ne d3).trans A.w⟩
section
variable {P : Program} {w : World} {K : PySem.W.Frag} {mg : Str → Option Value} {base : Heap} {C CS CH CN CV : Addr} {n : Nat}
theorem scPlay : FnScope ["_law_rows", "_law_hand", "_law_at", "_law_notes", "_law_row"] ["_law_rows", "_law_hand"] (defScope sPlay) := ⟨rfl, rfl, rfl, by decide +kernel, rfl, by decide +kernel, by decide +kernel⟩
theorem ok_play {f fA fW : Addr} {fd fdA fdW : FuncData} (F : Fun K "_law_play" "_law_play" sPlay f fd) (B : Blt mg) (T : HTxt K C)
    (GA : FnOk P w K mg base (L2.CX P w) (n + 6) fA fdA ["_law_hand", "_law_wish_here"] (spAskL K C CS CH n)) (mA : mg "_law_ask" = some (.ref fA)) (kA : PySem.W.keepIn K (.ref fA) = true) (bA : Binds K fdA ["_law_hand", "_law_wish_here"] [])
    (GW : FnOk P w K mg base CX0 2 fW fdW ["_law_row", "_law_notes"] (spWishL K)) (mW : mg "_law_wish" = some (.ref fW)) (kW : PySem.W.keepIn K (.ref fW) = true) (bW : Binds K fdW ["_law_row", "_law_notes"] []) :
    FnOk P w K mg base (L2.CX P w) (n + 7) f fd ["_law_rows", "_law_hand"] (spPlay K C CS CH n) := by
  refine F.okX scPlay (fun vs H Q E h => ?_) (fun cdv A outer s H vs Q E hr h => ?_)
  · obtain ⟨rl, hd, dx, md, wl, sh, an, me, ans, rows, S, H0, rfl, _⟩ := h
    rfl
  · obtain ⟨rl, hd, dx, md, wl, sh, an, me, ans, rows, S, H0, rfl, hR, hA, hS, hB3, ok, few, va, kE, kQ⟩ := h
    have hu := hu_of hr
    have hr2 : Room 2 _ := hr.mono (by omega)
    have px : Passes (L2.CX P w) (cxOf (L2.CX P w) P w K mg base ["_law_rows", "_law_hand", "_law_at", "_law_notes", "_law_row"] "_law_play" (defScope sPlay) f cdv A outer s H E) E := fun pins σ H s e s' I c => passAt (takes_of (E := E) rfl rfl rfl rfl) σ pins H s e s' I c
    refine ⟨_, pss_cons (ps_par (i := 2) (j := 3) rfl scPlay.nd rfl rfl (by decide) rfl rfl (pa_cons pe_int (pa_cons pe_dnewK pa_nil)) (by rfl))
      (pss_cons (ps_while (passes_of rfl) (pt_cmpR op_lt (pv 2) (pe_callB call_len_seq (by rfl) B.len PySem.boot_len (pa_cons (pv 0) pa_nil)) (nomark _))
        (pss_cons (ps_set (i := 4) scPlay.nd rfl (.inl rfl) (pe_ix ix_list (pv 0) (pv 2) (fun _ _ => rfl)))
        (pss_cons (ps_set (i := 2) scPlay.nd rfl (.inl rfl) (pe_op op_add (pv 2) pe_int))
        (pss_one (ps_if (pt_cmpR op_eq (pe_ix ix_tup (pv 4) pe_int (fun _ _ => rfl)) pe_str (nomark _)) (pss_one ps_never)
          (pss_one (ps_if (pt_cmpR op_eq (pe_ix ix_tup (pv 4) pe_int (fun _ _ => rfl)) pe_str (nomark _)) (pss_one ps_never)
            (pss_one (ps_if (pt_cmpR op_eq (pe_ix ix_tup (pv 4) pe_int (fun _ _ => rfl)) pe_str (nomark _)) (pss_one ps_never)
              (pss_one (ps_if (pt_cmpR op_eq (pe_ix ix_tup (pv 4) pe_int (fun _ _ => rfl)) pe_str (nomark _)) (pss_one ps_never)
                (pss_one (ps_dput hu (pv 3) (pe_ix ix_tup (pv 4) pe_int (fun _ _ => rfl)) (pe_call GA hr rfl mA kA bA .nil px (pa_cons (pv 1) (pa_cons (pe_call GW hr2 rfl mW kW bW .nil pass0 (pa_cons (pv 4) (pa_cons (pv 3) pa_nil))) pa_nil))) rfl)))))))))))))
      (pss_one (ps_ret pe_non))), ?_⟩
    obtain ⟨xs, hx, hl, hrow⟩ := hR.ex
    refine fun nd hnd => ⟨_, _, rfl, ?_⟩
    have s0 := same_new (o := .dK []) hnd
    have d1 := ne_of_none hA.ob hnd
    have d2 := ne_of_none hA.m hnd
    have d3 := ne_of_none hA.w hnd
    have A0 := hA.same s0
    have n0 := (upd_same : (upd H nd (.dK [])) nd = _)
    generalize upd H nd (.dK []) = H1 at *
    refine ⟨fun u σ H' => ∃ (q4 : Option V) (j : Nat), σ = [some (.ref rl), some (.ref hd), some (.int (j : Nat)), some (.ref nd), q4] ∧ rows.length = j + u ∧ j ≤ ans.length ∧ HandAt K C H' hd dx { hs0 me sh an ans md wl with asked := j } ∧ Keep3 hd md wl H H' ∧ H' nd = some (.dK (notesAt rows ans j)),
      ⟨rows.length, _, 0, rfl, (Nat.zero_add _).symm, Nat.zero_le _, A0, fun b o _ _ _ e => s0 _ _ e, n0⟩, ?_⟩
    rintro u σ H3 ⟨q4, j, rfl, hu', lj, A3, k3, n3⟩
    have S3 := hB3.same k3
    refine ⟨_, rfl, _, rfl, rl, xs, rfl, .inl (SqL.of (S3 _ _ hx)), _, _, rfl, rfl, _, rfl, ?_⟩
    by_cases c : j < rows.length
    · rw [decide_eq_true (by rw [hl]; omega)]
      refine iteT ⟨fun σ H' => ∃ u', u' < u ∧ ∃ (q4 : Option V) (j : Nat), σ = [some (.ref rl), some (.ref hd), some (.int (j : Nat)), some (.ref nd), q4] ∧ rows.length = j + u' ∧ j ≤ ans.length ∧ HandAt K C H' hd dx { hs0 me sh an ans md wl with asked := j } ∧ Keep3 hd md wl H H' ∧ H' nd = some (.dK (notesAt rows ans j)), fun σ' H' z => z, ?_⟩
      obtain ⟨r, hr1⟩ : ∃ r, rows[j]? = some r := ⟨_, List.getElem?_eq_getElem c⟩
      obtain ⟨x, hx1⟩ : ∃ x, xs[j]? = some x := ⟨_, List.getElem?_eq_getElem (hl ▸ c)⟩
      have mem := List.mem_of_getElem? hr1
      have hrx := (hrow j x r hx1 hr1).tk fun _ _ z => seqT_same S3 z
      have ne := (ok.kind r mem []).ne
      obtain ⟨t, ps, ys, rfl, ht, hps, hly, each⟩ := hrx.ex
      refine ⟨_, rfl, _, rfl, rl, xs, (j : Nat), .ref t, rfl, rfl, SqL.of (S3 _ _ hx), atI_nat hx1, ?_⟩
      refine ⟨_, rfl, _, _, rfl, rfl, ?_⟩
      refine ⟨_, rfl, t, _, _, _, rfl, rfl, ht, atI_nat (j := 0) rfl, rfl, _, rfl, ?_⟩
      rw [decide_eq_false (fun z => ne.1 (by injection z))]
      refine iteF ?_
      refine ⟨_, rfl, t, _, _, _, rfl, rfl, ht, atI_nat (j := 0) rfl, rfl, _, rfl, ?_⟩
      rw [decide_eq_false (fun z => ne.2.1 (by injection z))]
      refine iteF ?_
      refine ⟨_, rfl, t, _, _, _, rfl, rfl, ht, atI_nat (j := 0) rfl, rfl, _, rfl, ?_⟩
      rw [decide_eq_false (fun z => ne.2.2.1 (by injection z))]
      refine iteF ?_
      refine ⟨_, rfl, t, _, _, _, rfl, rfl, ht, atI_nat (j := 0) rfl, rfl, _, rfl, ?_⟩
      rw [decide_eq_false (fun z => ne.2.2.2.1 (by injection z))]
      refine iteF ?_
      have nv := notes_vn (rows := rows) va j
      refine ⟨_, rfl, _, rfl, _, rfl, .ref t, r, nd, _, rfl, hrx, n3, fun k H' e => numT_vn (nv k H' fun _ _ z => seqT_same (S3.trans e) z), ok.parts r mem, fun t2 H4 s4 ht4 => ?_⟩
      rw [rowWish_cell ne.2.2.2.2] at ht4
      have S4 := S3.trans s4
      have A4 := A3.same s4
      refine ⟨hd, dx, t2, _, S, r.kind, r.name, _, rfl, A4, hS.same S4, ht4, ok.kind r mem _, ok.name r mem, fun a ha => ?_, lj, Nat.le_trans few ok.few, rfl, fun H5 s5 => ⟨fun v hv => ?_, fun t5 ht5 e => ?_⟩⟩
      · obtain ⟨p, hp, rfl⟩ := List.mem_map.mp ha
        exact part_vn nv (fun v e => ok.vals r mem v (e ▸ hp)) _ fun _ _ z => seqT_same S4 z
      · have hv : ans[j]? = some v := hv
        have A6 := (A4.same s5).set (h' := { hs0 me sh an ans md wl with asked := j + 1 }) ⟨rfl, rfl, rfl, rfl, rfl, rfl⟩
        have n5 := s5 _ _ (s4 _ _ n3)
        have n6 : (upd H5 hd (.ins C dx { hs0 me sh an ans md wl with asked := j + 1 }.fs)) nd = some (.dK (notesAt rows ans j)) := (upd_ne (Ne.symm d1)).trans n5
        have t6 : SqT K (upd H5 hd (.ins C dx { hs0 me sh an ans md wl with asked := j + 1 }.fs)) t _ := seqT_ins (A4.same s5).ob (seqT_same s5 (seqT_same s4 ht))
        refine ⟨_, rfl, _, rfl, t, _, _, _, rfl, rfl, t6, atI_nat (j := 3) rfl, nd, _, rfl, DPut.k (k := Sum.inl r.note) n6 ?_, u - 1, by omega, _, j + 1, rfl, by omega, (List.getElem?_eq_some_iff.mp hv).1, ?_, ?_, ?_⟩
        · exact Nat.lt_of_le_of_lt (notes_len j) (Nat.lt_of_lt_of_le (Nat.lt_of_lt_of_le c (Nat.le_trans ok.few (by decide : 1000 ≤ 1001))) (small_sz (n := 1001) (by decide)))
        · exact A6.put d1 d2 d3 n6
        · intro b o e1 e2 e3 e
          have z := s5 _ _ (s4 _ _ (k3 b o e1 e2 e3 e))
          rw [upd_ne (ne_of_none e hnd), upd_ne e1]
          exact z
        · rw [notes_next hr1 hv]
          exact upd_same
      · have e : j = ans.length := e
        have A6 := (A4.same s5).set (h' := { hs0 me sh an ans md wl with asked := j, pend := .ref t5, halted := true }) ⟨rfl, rfl, rfl, rfl, rfl, rfl⟩
        refine kE _ _ A6 (fun b o e1 e2 e3 q => ?_) rfl ⟨rfl, .inl ⟨e ▸ c, rfl, t5, r, e ▸ hr1, rfl, ?_⟩⟩
        · rw [upd_ne e1]
          exact s5 _ _ (s4 _ _ (k3 b o e1 e2 e3 q))
        · rw [rowWish_cell ne.2.2.2.2, ← e]
          exact seqT_ins (A4.same s5).ob (SqT.of ht5)
    · rw [decide_eq_false (by rw [hl]; omega)]
      refine iteF (kQ _ _ A3 k3 rfl rfl rfl (by omega))
end
end TW
namespace TW
open PySem PySem.Spec PyProof.Rows L2
abbrev sStand : Stmt := top 73
/-- where a plan's work stands: a pair of (word, wish or value) and what was said -/
structure StandAt (K : PySem.W.Frag) (H : Hp) (x : V) (rows : List Row) (ans : List V) : Prop where
  ex : ∃ t p u, x = .ref t ∧ SqT K H t [.ref p, .ref u] ∧ SqT K H u [] ∧
    ((ans.length < rows.length ∧ ∃ wt r, rows[ans.length]? = some r ∧ SqT K H p [.str "wish", .ref wt] ∧ SqT K H wt (rowWish (notesAt rows ans ans.length) r)) ∨ (ans.length = rows.length ∧ SqT K H p [.str "told", .non]))
theorem StandAt.tk {K : PySem.W.Frag} {H H' : Hp} {x : V} {rows : List Row} {ans : List V} (e : TK K H H') (h : StandAt K H x rows ans) : StandAt K H' x rows ans := by
  obtain ⟨t, p, u, h1, h2, h3, h4⟩ := h.ex
  refine ⟨t, p, u, h1, e _ _ h2, e _ _ h3, h4.imp (fun ⟨z, wt, r, a, b, c⟩ => ⟨z, wt, r, a, e _ _ b, e _ _ c⟩) fun z => ⟨z.1, e _ _ z.2⟩⟩
def spStand (K : PySem.W.Frag) (n : Nat) : Sp := fun vs H Q _ => ∃ (rl an : Addr) (names : List Str) (rows : List Row) (ans : List V), vs = [.ref rl, .ref an] ∧ RowsAt K H rl rows ∧ SqT K H an ans ∧ RowsOk K H n names rows ∧ ans.length ≤ rows.length ∧ (∀ a ∈ ans, VnS K H n a) ∧ ∀ x H', Same H H' → StandAt K H' x rows ans → Q x H'
section
variable {P : Program} {w : World} {K : PySem.W.Frag} {mg : Str → Option Value} {base : Heap} {n : Nat}
theorem scStand : FnScope ["_law_rows", "_law_answers", "_law_at", "_law_notes", "_law_said", "_law_had", "_law_row"] ["_law_rows", "_law_answers"] (defScope sStand) := ⟨rfl, rfl, rfl, by decide +kernel, rfl, by decide +kernel, by decide +kernel⟩
theorem ok_stand {f fW : Addr} {fd fdW : FuncData} (F : Fun K "_law_stand" "_law_stand" sStand f fd) (B : Blt mg)
    (GW : FnOk P w K mg base CX0 2 fW fdW ["_law_row", "_law_notes"] (spWishL K)) (mW : mg "_law_wish" = some (.ref fW)) (kW : PySem.W.keepIn K (.ref fW) = true) (bW : Binds K fdW ["_law_row", "_law_notes"] []) :
    FnOk P w K mg base CX0 3 f fd ["_law_rows", "_law_answers"] (spStand K n) := by
  refine F.ok scStand (fun vs H Q E h => ?_) (fun cdv A outer s H vs Q E hr h => ?_)
  · obtain ⟨rl, an, names, rows, ans, rfl, _⟩ := h
    rfl
  · obtain ⟨rl, an, names, rows, ans, rfl, hR, hA, ok, few, va, k⟩ := h
    have hu := hu_of hr
    refine ⟨_, pss_cons (ps_asg (pe_tup (pa_cons pe_int (pa_cons pe_dnewK (pa_cons (pe_lst pa_nil) (pa_cons pe_int pa_nil))))) (pg_tup (n := 4) rfl (pgs_cons (pg_name (i := 2) scStand.nd rfl (Or.inl rfl)) (pgs_cons (pg_name (i := 3) scStand.nd rfl (Or.inl rfl)) (pgs_cons (pg_name (i := 4) scStand.nd rfl (Or.inl rfl)) (pgs_cons (pg_name (i := 5) scStand.nd rfl (Or.inl rfl)) pgs_nil))))))
      (pss_cons (ps_while PassesOwn.never (pt_cmpR op_lt (pv 2) (pe_callB call_len_seq (by rfl) B.len PySem.boot_len (pa_cons (pv 0) pa_nil)) (nomark _))
        (pss_cons (ps_set (i := 6) scStand.nd rfl (.inl rfl) (pe_ix ix_list (pv 0) (pv 2) (fun _ _ => rfl)))
        (pss_cons (ps_set (i := 2) scStand.nd rfl (.inl rfl) (pe_op op_add (pv 2) pe_int))
        (pss_one (ps_if (pt_cmpR op_eq (pe_ix ix_tup (pv 6) pe_int (fun _ _ => rfl)) pe_str (nomark _)) (pss_one ps_never)
          (pss_one (ps_if (PW.pt (pw_or (pt_cmpR op_eq (pe_ix ix_tup (pv 6) pe_int (fun _ _ => rfl)) pe_str (nomark _)) (pw_or1 (pt_cmpR op_eq (pe_ix ix_tup (pv 6) pe_int (fun _ _ => rfl)) pe_str (nomark _))))) (pss_one ps_never)
            (pss_one (ps_if (pt_cmpR op_eq (pe_ix ix_tup (pv 6) pe_int (fun _ _ => rfl)) pe_str (nomark _)) (pss_one ps_never)
              (pss_one (ps_if (pt_cmpR op_eq (pv 5) (pe_callB call_len_seq (by rfl) B.len PySem.boot_len (pa_cons (pv 1) pa_nil)) (nomark _))
                (pss_one (ps_ret (pe_tup (pa_cons (pe_tup (pa_cons pe_str (pa_cons (pe_call GW hr rfl mW kW bW .nil pass0 (pa_cons (pv 6) (pa_cons (pv 3) pa_nil))) pa_nil))) (pa_cons (pe_callTy call_tuple_of (by rfl) B.tuple (by decide +kernel) (pa_cons (pv 4) pa_nil)) pa_nil)))))
                (pss_cons (ps_dput hu (pv 3) (pe_ix ix_tup (pv 6) pe_int (fun _ _ => rfl)) (pe_ix ix_tup (pv 1) (pv 5) (fun _ _ => rfl)) rfl)
                (pss_one (ps_set (i := 5) scStand.nd rfl (.inl rfl) (pe_op op_add (pv 5) pe_int)))))))))))))))
      (pss_one (ps_ret (pe_tup (pa_cons (pe_tup (pa_cons pe_str (pa_cons pe_non pa_nil))) (pa_cons (pe_callTy call_tuple_of (by rfl) B.tuple (by decide +kernel) (pa_cons (pv 4) pa_nil)) pa_nil)))))), ?_⟩
    obtain ⟨xs, hx, hl, hrow⟩ := hR.ex
    refine fun nd hnd => ⟨Nat.zero_le _, fun sd hsd => ⟨small_sz (n := 4) (by decide), fun t0 ht0 => ?_⟩⟩
    have s1 := same_new (o := .dK []) hnd
    have s2 := same_new (o := .lst []) hsd
    have s3 := same_new (o := .tup [.int 0, .ref nd, .ref sd, .int 0]) ht0
    have n0 := s3 _ _ (s2 _ _ (upd_same (H := H) (a := nd) (o := .dK [])))
    have l0 := s3 _ _ (upd_same (H := upd H nd (.dK [])) (a := sd) (o := .lst []))
    have S0 := (s1.trans s2).trans s3
    refine ⟨t0, _, rfl, SqT.of upd_same, rfl, _, _, rfl, _, _, rfl, _, _, rfl, _, _, rfl, rfl, ?_⟩
    have nf : H nd = none := hnd
    have sf : H sd = none := s1.free hsd
    have ns : sd ≠ nd := fun e => by
      rw [e, upd_same] at hsd
      cases hsd
    generalize upd (upd (upd H nd (.dK [])) sd (.lst [])) t0 (.tup [.int 0, .ref nd, .ref sd, .int 0]) = H1 at *
    refine ⟨fun u σ H' => ∃ (q6 : Option V) (j : Nat), σ = [some (.ref rl), some (.ref an), some (.int (j : Nat)), some (.ref nd), some (.ref sd), some (.int (j : Nat)), q6] ∧ rows.length = j + u ∧ j ≤ ans.length ∧ Same H H' ∧ H' nd = some (.dK (notesAt rows ans j)) ∧ H' sd = some (.lst []),
      ⟨rows.length, _, 0, rfl, (Nat.zero_add _).symm, Nat.zero_le _, S0, n0, l0⟩, ?_⟩
    rintro u σ H3 ⟨q6, j, rfl, hu', lj, S3, n3, l3⟩
    refine ⟨_, rfl, _, rfl, rl, xs, rfl, .inl (SqL.of (S3 _ _ hx)), _, _, rfl, rfl, _, rfl, ?_⟩
    by_cases c : j < rows.length
    · rw [decide_eq_true (by rw [hl]; omega)]
      refine iteT ⟨fun σ H' => ∃ u', u' < u ∧ ∃ (q6 : Option V) (j : Nat), σ = [some (.ref rl), some (.ref an), some (.int (j : Nat)), some (.ref nd), some (.ref sd), some (.int (j : Nat)), q6] ∧ rows.length = j + u' ∧ j ≤ ans.length ∧ Same H H' ∧ H' nd = some (.dK (notesAt rows ans j)) ∧ H' sd = some (.lst []), fun σ' H' z => z, ?_⟩
      obtain ⟨r, hr1⟩ : ∃ r, rows[j]? = some r := ⟨_, List.getElem?_eq_getElem c⟩
      obtain ⟨x, hx1⟩ : ∃ x, xs[j]? = some x := ⟨_, List.getElem?_eq_getElem (hl ▸ c)⟩
      have mem := List.mem_of_getElem? hr1
      have hrx := (hrow j x r hx1 hr1).tk fun _ _ z => seqT_same S3 z
      have ne := (ok.kind r mem []).ne
      obtain ⟨t, ps, ys, rfl, ht, hps, hly, each⟩ := hrx.ex
      refine ⟨_, rfl, _, rfl, rl, xs, (j : Nat), .ref t, rfl, rfl, SqL.of (S3 _ _ hx), atI_nat hx1, ?_⟩
      refine ⟨_, rfl, _, _, rfl, rfl, ?_⟩
      refine ⟨_, rfl, t, _, _, _, rfl, rfl, ht, atI_nat (j := 0) rfl, rfl, _, rfl, ?_⟩
      rw [decide_eq_false (fun z => ne.1 (by injection z))]
      refine iteF ?_
      refine ⟨_, rfl, t, _, _, _, rfl, rfl, ht, atI_nat (j := 0) rfl, rfl, _, rfl, ?_⟩
      rw [decide_eq_false (fun z => ne.2.1 (by injection z))]
      refine iteF ?_
      refine ⟨_, rfl, t, _, _, _, rfl, rfl, ht, atI_nat (j := 0) rfl, rfl, _, rfl, ?_⟩
      rw [decide_eq_false (fun z => ne.2.2.1 (by injection z))]
      refine iteF ?_
      refine ⟨_, rfl, t, _, _, _, rfl, rfl, ht, atI_nat (j := 0) rfl, rfl, _, rfl, ?_⟩
      rw [decide_eq_false (fun z => ne.2.2.2.1 (by injection z))]
      refine iteF ?_
      have nv := notes_vn (rows := rows) va j
      refine ⟨_, rfl, _, rfl, an, _, rfl, .inr (seqT_same S3 hA), rfl, _, rfl, ?_⟩
      by_cases e : j = ans.length
      · rw [decide_eq_true (by rw [e])]
        refine iteT ?_
        refine ⟨_, rfl, _, rfl, .ref t, r, nd, _, rfl, hrx, n3, fun k H' e => numT_vn (nv k H' fun _ _ z => seqT_same (S3.trans e) z), ok.parts r mem, fun t2 H4 s4 ht4 => ⟨two_sz, fun p hp => ?_⟩⟩
        have sp := same_new (o := .tup [.str "wish", .ref t2]) hp
        refine ⟨_, rfl, sd, _, rfl, .inl ⟨SqL.of (sp _ _ (s4 _ _ l3)), fun v hv => ⟨two_sz, fun z hz => ?_⟩⟩⟩
        have sv := same_new (o := .tup []) hv
        have sz := same_new (o := .tup [.ref p, .ref v]) hz
        have all := sp.trans (sv.trans sz)
        refine k _ _ ((S3.trans s4).trans all) ⟨z, p, v, rfl, SqT.of upd_same, SqT.of (sz _ _ upd_same), .inl ⟨e ▸ c, t2, r, e ▸ hr1, SqT.of ((sv.trans sz) _ _ upd_same), ?_⟩⟩
        rw [← e]
        exact seqT_same all ht4
      · rw [decide_eq_false (fun z => e (by injection z with z; omega))]
        refine iteF ?_
        obtain ⟨v, hv⟩ : ∃ v, ans[j]? = some v := ⟨_, List.getElem?_eq_getElem (by omega)⟩
        refine ⟨_, rfl, _, rfl, an, _, _, _, rfl, rfl, seqT_same S3 hA, atI_nat hv, _, rfl, _, rfl, t, _, _, _, rfl, rfl, ht, atI_nat (j := 3) rfl, nd, _, rfl, DPut.k (k := Sum.inl r.note) n3 ?_, ?_⟩
        · exact Nat.lt_of_le_of_lt (notes_len j) (Nat.lt_of_lt_of_le (Nat.lt_of_lt_of_le c (Nat.le_trans ok.few (by decide : 1000 ≤ 1001))) (small_sz (n := 1001) (by decide)))
        refine ⟨_, rfl, _, _, rfl, rfl, u - 1, by omega, _, j + 1, rfl, by omega, by omega, fun b o z => ?_, ?_, ?_⟩
        · rw [upd_ne (ne_of_none z nf)]
          exact S3 _ _ z
        · rw [notes_next hr1 hv]
          exact upd_same
        · exact (upd_ne ns).trans l3
    · rw [decide_eq_false (by rw [hl]; omega)]
      refine iteF ?_
      refine ⟨two_sz, fun p hp => ?_⟩
      have sp := same_new (o := .tup [.str "told", .non]) hp
      refine ⟨_, rfl, sd, _, rfl, .inl ⟨SqL.of (sp _ _ l3), fun v hv => ⟨two_sz, fun z hz => ?_⟩⟩⟩
      have sv := same_new (o := .tup []) hv
      have sz := same_new (o := .tup [.ref p, .ref v]) hz
      exact k _ _ (S3.trans (sp.trans (sv.trans sz))) ⟨z, p, v, rfl, SqT.of upd_same, SqT.of (sz _ _ upd_same), .inr ⟨by omega, SqT.of ((sv.trans sz) _ _ upd_same)⟩⟩
end
end TW
namespace TW
open PySem PySem.Spec PyProof.Rows L2
theorem pF_rF {C1 d1 C2 d2 : Addr} {a b c d e f g h : V} : HO.ins C1 d1 (pF a b c d) ≠ HO.ins C2 d2 (rF e f g h) := by
  intro z
  injection z with z1 z2 z3
  unfold pF rF at z3
  injection z3 with z4 z5
  injection z4 with z6 z7
  exact absurd z6 (by decide +kernel)
theorem upd_id {H : Hp} {a : Addr} {o : HO} (h : H a = some o) : upd H a o = H := by
  funext b
  by_cases e : b = a
  · rw [e, upd_same, h]
  · rw [upd_ne e]
/-- what a step answers and leaves in the cells -/
def DoesC (K : PySem.W.Frag) (w : World) (CT pS : Addr) (S : Addr → Option Sp) (me : Int) (pend : V) (H : Hp) (T : TS) (a : V) (c : List (Key × V)) : Prop :=
  ∀ (T2 : TS) (t2 : Addr) (G : Hp) (Q : VK), TK K H G → ThingsAt K CT G t2 T2 → T2.cells = T.cells → T2.holders = T.holders → T2.rows = T.rows → T2.sizes = T.sizes → Q a (upd G T2.cd (.dK c)) → spDoStep K w pS S [.ref t2, .int me, pend] G Q (fun _ _ _ => False)
/-- all but a run's own three objects stand -/
def But3 (r pl dn : Addr) (H H' : Hp) : Prop := ∀ b o, b ≠ r → b ≠ pl → b ≠ dn → H b = some o → H' b = some o
/-- a run, well laid -/
structure RunI (K : PySem.W.Frag) (CR CT CP : Addr) (H : Hp) (r : Addr) (R : RS) : Prop where
  at_ : RunAt K CR CT CP H r R
  ne : R.dn ≠ R.pl
theorem run_tk {K : PySem.W.Frag} {CR CT CP : Addr} {H H' : Hp} {r : Addr} {R : RS} (hR : RunAt K CR CT CP H r R) (b : But3 r R.pl R.dn H H') : TK K H H' := fun a xs q => by
  have no : ∀ (o : HO), H a = some o → (∀ C d fs, o ≠ .ins C d fs) → (∀ ys, o ≠ .lst ys) → H' a = some o := fun o e n1 n2 =>
    b a o (fun z => by rw [z, hR.ob] at e; exact n1 _ _ _ (Option.some.inj e).symm) (fun z => by rw [z, hR.p] at e; exact n2 _ (Option.some.inj e).symm) (fun z => by rw [z, hR.d] at e; exact n2 _ (Option.some.inj e).symm) e
  rcases q with (q | ⟨o, q⟩) | q
  · exact .inl (.inl (no _ q (fun _ _ _ z => (nomatch z)) fun _ z => (nomatch z)))
  · exact .inl (.inr ⟨o, no _ q (fun _ _ _ z => (nomatch z)) fun _ z => (nomatch z)⟩)
  · exact .inr q
end TW
namespace TW
open PySem PySem.Spec PyProof.Rows L2
theorem tF_rF {C1 d1 C2 d2 : Addr} {a b c d e f g h : V} : HO.ins C1 d1 (tF a b c d) ≠ HO.ins C2 d2 (rF e f g h) := by
  intro z
  injection z with z1 z2 z3
  unfold tF rF at z3
  injection z3 with z4 z5
  injection z4 with z6 z7
  exact absurd z6 (by decide +kernel)
theorem whl_i {K : PySem.W.Frag} {H : Hp} {i : Int} : Whl K H (.int i) true := ⟨"int", true, false, .base (.int i), by decide +kernel, fun _ => by decide +kernel, rfl⟩
/-- a run behind a step of work n -/
structure Went (K : PySem.W.Frag) (H' : Hp) (R R' : RS) (n : Nat) (pend : V) (a : V) (c : List (Key × V)) (y' : PS) : Prop where
  sh : R'.sh = R.sh
  pl : R'.pl = R.pl
  dn : R'.dn = R.dn
  c : R'.T.cells = c
  h : R'.T.holders = R.T.holders
  r : R'.T.rows = R.T.rows
  s : R'.T.sizes = R.T.sizes
  places : R'.places = R.places.set n y'
  done : ∃ t, R'.done = R.done ++ [.ref t] ∧ SqT K H' t [.int (n : Int), pend, a]
section
variable {P : Program} {w : World} {K : PySem.W.Frag} {mg : Str → Option Value} {base : Heap} {C CS CP CH CV CR CT CW CC pS : Addr} {kw m : Nat} {S : Addr → Option Sp} {Rel : Hp → V → V → Bool → Prop}
theorem place_but {H H' : Hp} {r : Addr} {R : RS} {x : PS} (hR : RunAt K CR CT CP H r R) (b : But3 r R.pl R.dn H H') (A : PlaceAt K CP H x) : PlaceAt K CP H' x :=
  ⟨b _ _ (ne_of A.ob hR.ob pF_rF) (ne_of A.ob hR.p (by intro z; cases z)) (ne_of A.ob hR.d (by intro z; cases z)) A.ob, run_tk hR b _ _ A.a, run_tk hR b _ _ A.w⟩
theorem go_use {SSh : SS} {g : Addr} {n : Nat} {Adm : List V → Prop} {B : Beh} (hB : BehS K B) (hx : PySem.W.exmOne K (.ref CH) (.ref CH) = some true) (Wk : WorkOk P w K mg base C CS CH kw m SSh g n Adm B) {H : Hp} {r : Addr} {R : RS} {y : PS} {a : V} {c : List (Key × V)}
    (hI : RunI K CR CT CP H r R) (hS : ShopAt K CS H R.sh SSh) (ey : R.places[n]? = some y) (hw : SSh.works[n]? = some (.ref g)) (can : CanGo K Rel H R.T y.pend true) (adm : Adm (y.ans ++ [a])) (do_ : DoesC K w CT pS S (n : Int) y.pend H R.T a c)
    (few1 : y.ans.length + 1 ≤ 100000) (few2 : R.done.length < sizeLine) (nh : R.T.cells ≠ R.T.holders) (nr : R.T.cells ≠ R.T.rows) {Q : VK} {E : XK}
    (k : ∀ (R' : RS) (y' : PS) (H' : Hp), But3 r R.pl R.dn H H' → RunI K CR CT CP H' r R' → Went K H' R R' n y.pend a c y' → y'.ans = y.ans ++ [a] → B H' y'.ans y'.pend y'.fin y'.words → Q a H') :
    spGo P w K CR CT CP CW CC pS S Rel (spCome P w K mg base C CS CP CH CV kw m) [.ref r, .int (n : Int)] H Q E := by
  have hR := hI.at_
  have mem := List.mem_of_getElem? ey
  have hn := (List.getElem?_eq_some_iff.mp ey).1
  refine ⟨r, R, .int (n : Int), true, rfl, hR, whl_i, fun z => (nomatch z), fun _ => ⟨n, rfl, fun z => absurd ⟨by omega, by omega⟩ z, fun n' y2 en ey2 => ?_⟩⟩
  obtain rfl : n = n' := by omega
  obtain rfl : y = y2 := Option.some.inj (ey.symm.trans ey2)
  refine ⟨true, can, fun H1 s1 => ⟨fun z => (nomatch z), fun _ t2 dx cd hd rd G n1 n2 n3 n4 n5 sG hT => ?_⟩⟩
  refine do_ { R.T with dx := dx, cd := cd, hd := hd, rd := rd } t2 G _ (TK.of (s1.trans sG)) hT rfl rfl rfl rfl ?_
  have s2 : Same H (upd G cd (.dK c)) := fun b o e => by
    rw [upd_ne (ne_of_none (s1 _ _ e) n3)]
    exact sG _ _ (s1 _ _ e)
  have hT2 : ThingsAt K CT (upd G cd (.dK c)) t2 { R.T with dx := dx, cd := cd, hd := hd, rd := rd, cells := c } := by
    have hc : G cd = some (.dK R.T.cells) := hT.c
    have hh : G hd = some (.dK R.T.holders) := hT.h
    have hr : G rd = some (.dK R.T.rows) := hT.r
    refine ⟨?_, upd_same, ?_, ?_, s2 _ _ hR.t.s⟩
    · exact (upd_ne (ne_of hT.ob hc (by intro z; cases z))).trans hT.ob
    · exact (upd_ne (ne_of hh hc (by intro z; injection z with z; exact nh z.symm))).trans hh
    · exact (upd_ne (ne_of hr hc (by intro z; injection z with z; exact nr z.symm))).trans hr
  refine ⟨s2 _ _ hR.ob, (hR.e y mem).same s2, few1, fun an2 H3 s3 ha => ?_⟩
  have s4 := s2.trans s3
  refine come_use hB hx Wk (hS.same s4) ha hw adm fun pl dp tw pend fin words H4 s5 hpl o4 w4 b4 => ?_
  have s6 : Same H H4 := s4.trans s5
  have q1 := s6 _ _ hR.ob
  have q2 := s6 _ _ hR.p
  have q3 := s6 _ _ hR.d
  have q4 := s6 _ _ (hR.e y mem).ob
  refine ⟨pl, rfl, q1, q2, q3, hI.ne, few2, q4, ne_of q4 q1 pF_rF, fun t ht => ?_⟩
  have z1 : r ≠ R.pl := ne_of q1 q2 (by intro z; cases z)
  have z2 : r ≠ R.dn := ne_of q1 q3 (by intro z; cases z)
  have g1 : goHp CR r R n t2 pl H4 r = some (.ins CR R.dx (rF (.ref R.sh) (.ref t2) (.ref R.pl) (.ref R.dn))) := (upd_ne z1).trans upd_same
  have g2 : goHp CR r R n t2 pl H4 R.pl = some (.lst ((R.places.map fun x => V.ref x.p).set n (.ref pl))) := upd_same
  have g0 : ∀ b o, b ≠ r → b ≠ R.pl → H4 b = some o → goHp CR r R n t2 pl H4 b = some o := fun b o e1 e2 e => (upd_ne e2).trans ((upd_ne e1).trans e)
  have bF : But3 r R.pl R.dn H4 (upd (upd (goHp CR r R n t2 pl H4) t (.tup [.int (n : Int), y.pend, a])) R.dn (.lst (R.done ++ [.ref t]))) := fun b o e1 e2 e3 e => by
    have z := g0 b o e1 e2 e
    rw [upd_ne e3, upd_ne (ne_of_none z ht)]
    exact z
  have ep : (R.places.map fun x => V.ref x.p).set n (.ref pl) = (R.places.set n ⟨pl, dp, an2, y.ans ++ [a], pend, fin, tw, words⟩).map fun x => V.ref x.p := by
    rw [List.map_set]
  have hR4 : RunAt K CR CT CP H4 r R := hR.same s6
  have tk := run_tk hR4 bF
  have td : t ≠ R.dn := fun e => by
    rw [e] at ht
    rw [show goHp CR r R n t2 pl H4 R.dn = some (.lst R.done) from g0 _ _ (Ne.symm z2) hI.ne q3] at ht
    cases ht
  have u1 : upd (upd (goHp CR r R n t2 pl H4) t (.tup [.int (n : Int), y.pend, a])) R.dn (.lst (R.done ++ [.ref t])) r = some (.ins CR R.dx (rF (.ref R.sh) (.ref t2) (.ref R.pl) (.ref R.dn))) := by
    rw [upd_ne z2, upd_ne (ne_of_none g1 ht)]
    exact g1
  have u2 : upd (upd (goHp CR r R n t2 pl H4) t (.tup [.int (n : Int), y.pend, a])) R.dn (.lst (R.done ++ [.ref t])) R.pl = some (.lst ((R.places.set n ⟨pl, dp, an2, y.ans ++ [a], pend, fin, tw, words⟩).map fun x => V.ref x.p)) := by
    rw [upd_ne (Ne.symm hI.ne), upd_ne (ne_of_none g2 ht), g2, ep]
  have T4 : ThingsAt K CT H4 t2 { R.T with dx := dx, cd := cd, hd := hd, rd := rd, cells := c } := hT2.same (s3.trans s5)
  have kp : ∀ {b : Addr} {o : HO}, H4 b = some o → (∀ a b c d, o ≠ .ins CR R.dx (rF a b c d)) → (∀ ys, o ≠ .lst ys) → (upd (upd (goHp CR r R n t2 pl H4) t (.tup [.int (n : Int), y.pend, a])) R.dn (.lst (R.done ++ [.ref t]))) b = some o := fun {b o} e e1 e2 =>
    bF b o (ne_of e q1 (e1 _ _ _ _)) (ne_of e q2 (e2 _)) (ne_of e q3 (e2 _)) e
  refine k ⟨R.dx, R.sh, t2, R.pl, R.dn, { R.T with dx := dx, cd := cd, hd := hd, rd := rd, cells := c }, R.places.set n ⟨pl, dp, an2, y.ans ++ [a], pend, fin, tw, words⟩, R.done ++ [.ref t]⟩ ⟨pl, dp, an2, y.ans ++ [a], pend, fin, tw, words⟩ _ (fun b o e1 e2 e3 e => bF b o e1 e2 e3 (s6 _ _ e)) ⟨⟨u1, ?_, u2, fun x hx => ?_, upd_same⟩, hI.ne⟩
    ⟨rfl, rfl, rfl, rfl, rfl, rfl, rfl, rfl, t, rfl, SqT.of ((upd_ne td).trans upd_same)⟩ rfl (hB _ _ _ _ _ _ tk b4)
  · refine ⟨kp T4.ob (fun _ _ _ _ => tF_rF) (fun _ z => (nomatch z)), kp T4.c (fun _ _ _ _ z => (nomatch z)) (fun _ z => (nomatch z)), kp T4.h (fun _ _ _ _ z => (nomatch z)) (fun _ z => (nomatch z)), kp T4.r (fun _ _ _ _ z => (nomatch z)) (fun _ z => (nomatch z)), kp T4.s (fun _ _ _ _ z => (nomatch z)) (fun _ z => (nomatch z))⟩
  · rcases List.mem_or_eq_of_mem_set hx with h | rfl
    · exact place_but hR4 bF (hR4.e x h)
    · exact place_but hR4 bF ⟨o4, seqT_same s5 ha, w4⟩
end
end TW
namespace TW
open PySem PySem.Spec PyProof.Rows L2
section
variable {P : Program} {w : World} {K : PySem.W.Frag} {mg : Str → Option Value} {base : Heap} {CT pS : Addr} {S : Addr → Option Sp} {Rel : Hp → V → V → Bool → Prop}
theorem does_look {H : Hp} {T : TS} {wt f : Addr} {nm : Str} {me : Int} {v : V} (hw : SqT K H wt [.str "look", .str nm]) (hv : valV T.cells (Sum.inr nm) = some v) (hk : KDct K w pS "look" (.ref f)) (hs : S f = some (spStep K CT dLook)) : DoesC K w CT pS S me (.ref wt) H T v T.cells := by
  intro T2 t2 G Q tk hT e1 e2 e3 e4 hq
  have ei : upd G T2.cd (.dK T.cells) = G := by
    have z := hT.c
    rw [e1] at z
    exact upd_id z
  rw [ei] at hq
  exact ⟨.ref t2, .int me, wt, f, "look", [.str nm], _, rfl, tk _ _ hw, hk, hs, t2, wt, me, T2, "look", nm, [], rfl, hT, tk _ _ hw, v, by rw [e1]; exact hv, hq⟩
theorem does_swap {H : Hp} {T : TS} {wt f : Addr} {nm : Str} {me : Int} {v x : V} (hw : SqT K H wt [.str "swap", .str nm, x]) (hv : valV T.cells (Sum.inr nm) = some v) (few : T.cells.length < sizeLine) (hk : KDct K w pS "swap" (.ref f)) (hs : S f = some (spStep K CT dSwap)) : DoesC K w CT pS S me (.ref wt) H T v (putK T.cells (Sum.inr nm) x) := by
  intro T2 t2 G Q tk hT e1 e2 e3 e4 hq
  refine ⟨.ref t2, .int me, wt, f, "swap", [.str nm, x], _, rfl, tk _ _ hw, hk, hs, t2, wt, me, T2, "swap", nm, [x], rfl, hT, tk _ _ hw, x, [], v, rfl, by rw [e1]; exact hv, by rw [e1]; exact few, ?_⟩
  rw [e1]
  exact hq
theorem can_plain {H : Hp} {T : TS} {wt : Addr} {word : Str} {rest : List V} (hw : SqT K H wt (.str word :: rest)) (n1 : word ≠ "until") (n2 : word ≠ "take") (n3 : word ≠ "lay") (n4 : word ≠ "fetch") : CanGo K Rel H T (.ref wt) true :=
  .inr ⟨wt, word, rest, rfl, hw, fun z => absurd z n1, fun z => absurd z n2, fun z => absurd z n3, fun z => absurd z n4, fun _ _ _ _ => rfl⟩
theorem can_end {H : Hp} {T : TS} : CanGo K Rel H T .non false := .inl ⟨rfl, rfl⟩
end
end TW
namespace TW
open PySem PySem.Spec PyProof.Rows L2
theorem place_put {K : PySem.W.Frag} {CP D : Addr} {H : Hp} {x : PS} {xs ys : List V} (hD : H D = some (.lst xs)) (A : PlaceAt K CP H x) : PlaceAt K CP (upd H D (.lst ys)) x :=
  ⟨(upd_ne (ne_of A.ob hD (by intro z; cases z))).trans A.ob, sqT_but hD (fun _ z => (nomatch z)) (fun _ _ z => (nomatch z)) But.put A.a, sqT_but hD (fun _ z => (nomatch z)) (fun _ _ z => (nomatch z)) But.put A.w⟩
theorem tk_lst {K : PySem.W.Frag} {D : Addr} {H : Hp} {xs ys : List V} (hD : H D = some (.lst xs)) : TK K H (upd H D (.lst ys)) := fun _ _ q => sqT_but hD (fun _ z => (nomatch z)) (fun _ _ z => (nomatch z)) But.put q
theorem tF_shop {C1 d1 C2 d2 : Addr} {a b c d e : V} {fs : List (Str × V)} : HO.ins C1 d1 (tF a b c d) ≠ HO.ins C2 d2 (("shop", e) :: fs) := by
  intro z
  injection z with z1 z2 z3
  unfold tF at z3
  injection z3 with z4 z5
  injection z4 with z6 z7
  exact absurd z6 (by decide +kernel)
theorem pF_shop {C1 d1 C2 d2 : Addr} {a b c d e : V} {fs : List (Str × V)} : HO.ins C1 d1 (pF a b c d) ≠ HO.ins C2 d2 (("shop", e) :: fs) := by
  intro z
  injection z with z1 z2 z3
  unfold pF at z3
  injection z3 with z4 z5
  injection z4 with z6 z7
  exact absurd z6 (by decide +kernel)
section
variable {P : Program} {w : World} {K : PySem.W.Frag} {mg : Str → Option Value} {base : Heap} {C CS CP CH CV CR CT : Addr} {kw n : Nat}
theorem ri_use {S : SS} {m : Nat} (Bs : Nat → Beh) (Ad : Nat → List V → Prop) (gs : Nat → Addr) (hx : PySem.W.exmOne K (.ref CH) (.ref CH) = some true) (hB : ∀ i, i < m → BehS K (Bs i)) (hA : ∀ i, i < m → Ad i []) (hw : ∀ i, i < m → S.works[i]? = some (.ref (gs i)))
    (Wk : ∀ i, i < m → WorkOk P w K mg base C CS CH kw n S (gs i) i (Ad i) (Bs i)) {H : Hp} {r dx sh : Addr} (ho : H r = some (.ins CR dx [])) (hS : ShopAt K CS H sh S) (hm : S.many = (m : Int)) (few : m ≤ 1000) (n1 : S.locks.Nodup) (n2 : S.beltN.Nodup) (l1 : S.locks.length ≤ 1000) (l2 : S.belts.length ≤ 1000) {Q : VK} {E : XK}
    (k : ∀ (R : RS) (H' : Hp), But r H H' → RunI K CR CT CP H' r R → R.sh = sh → R.T.cells = S.cells → R.T.holders = S.locks.map (fun s => (Sum.inr s, V.non)) → R.T.rows.map (·.1) = S.beltN.map Sum.inr → (∀ p ∈ R.T.rows, ∃ a, p.2 = .ref a ∧ SqT K H' a []) → R.T.sizes = S.belts → R.places.length = m →
      (∀ j x, R.places[j]? = some x → x.ans = [] ∧ Bs j H' [] x.pend x.fin x.words) → R.done = [] → H R.pl = none → H R.dn = none → Q .non H') :
    spRI K CR CS CT (spCome P w K mg base C CS CP CH CV kw n) [.ref r, .ref sh] H Q E := by
  have hsr : sh ≠ r := ne_of hS.ob ho (by
    intro z
    injection z with z1 z2 z3
    unfold sF at z3
    cases z3)
  refine ⟨r, dx, sh, S, m, rfl, ho, hm, few, ?_⟩
  have b0 : But r H (upd H r (.ins CR dx [("shop", .ref sh)])) := .put
  have sB : ∀ {G G' : Hp}, But r G G' → (∃ fs, G r = some (.ins CR dx fs)) → ShopAt K CS G sh S → ShopAt K CS G' sh S := fun {G G'} b ⟨fs, e⟩ A =>
    ⟨b _ _ hsr A.ob, sqT_but e ins_ntup.1 ins_ntup.2 b A.w, b _ _ (ne_of A.c e (by intro z; cases z)) A.c, A.cn, sqT_but e ins_ntup.1 ins_ntup.2 b A.l, b _ _ (ne_of A.b e (by intro z; cases z)) A.b, A.bn⟩
  have S0 := sB b0 ⟨_, ho⟩ hS
  refine ⟨sh, S, rfl, S0, n1, n2, l1, l2, fun t2 tdx cd hd rd rows G f1 f2 f3 f4 sG hT hk hr => ?_⟩
  have or : G r = some (.ins CR dx [("shop", .ref sh)]) := sG _ _ upd_same
  refine ⟨or, S0.same sG, hsr, fun D hD => ?_⟩
  have b1 : But r H G := b0.trans (But.of sG)
  refine ⟨fun i H1 acc => ∃ ps : List PS, acc = ps.map (fun x => V.ref x.p) ∧ ps.length = i ∧ (∀ j x, ps[j]? = some x → PlaceAt K CP H1 x ∧ x.ans = [] ∧ Bs j H1 [] x.pend x.fin x.words) ∧ (∀ b o, b ≠ r → b ≠ D → G b = some o → H1 b = some o) ∧ H1 r = some (.ins CR dx [("shop", .ref sh), ("things", .ref t2)]) ∧ H1 D = some (.lst acc) ∧ D ≠ r, ?_, ?_, ?_⟩
  · have e : D ≠ r := fun e => by
      rw [e, upd_same] at hD
      cases hD
    exact ⟨[], rfl, rfl, fun j x z => (nomatch z), fun b o e1 e2 z => by rw [upd_ne e2, upd_ne e1]; exact z, (upd_ne (Ne.symm e)).trans upd_same, upd_same, e⟩
  · rintro i H1 acc hi ⟨ps, rfl, hl, each, f, hr1, hd1, dr⟩ _ t ht
    have gD : G D = none := by
      rw [upd_ne dr] at hD
      exact hD
    have bG : But r G H1 := fun b o e1 e => f b o e1 (ne_of_none e gD) e
    have st := same_new (o := .tup []) ht
    have S1 := (sB bG ⟨_, or⟩ (S0.same sG)).same st
    refine come_use (hB i hi) hx (Wk i hi) S1 (SqT.of upd_same) (hw i hi) (hA i hi) fun pl dp tw pend fin words H2 s5 hpl o4 w4 b4 => ?_
    have sm := st.trans s5
    have hd2 := sm _ _ hd1
    refine ⟨hd2, ps ++ [⟨pl, dp, t, [], pend, fin, tw, words⟩], by rw [List.map_append]; rfl, by rw [List.length_append, hl]; rfl, fun j x e => ?_, fun b o e1 e2 e => by rw [upd_ne e2]; exact sm _ _ (f b o e1 e2 e), (upd_ne (Ne.symm dr)).trans (sm _ _ hr1), upd_same, dr⟩
    by_cases c : j < ps.length
    · rw [List.getElem?_append_left c] at e
      obtain ⟨q1, q2, q3⟩ := each j x e
      exact ⟨place_put hd2 (q1.same sm), q2, hB j (Nat.lt_trans (hl ▸ c) hi) _ _ _ _ _ _ ((TK.of sm).trans (tk_lst hd2)) q3⟩
    · have z := (List.getElem?_eq_some_iff.mp e).1
      rw [List.length_append] at z
      have ej : j = ps.length := by
        have : j < ps.length + 1 := z
        omega
      rw [ej, List.getElem?_append_right (Nat.le_refl _), Nat.sub_self] at e
      obtain rfl := (Option.some.inj (show some _ = some x from e)).symm
      rw [ej, hl]
      exact ⟨place_put hd2 ⟨o4, seqT_same s5 (SqT.of upd_same), w4⟩, rfl, hB i hi _ _ _ _ _ _ (tk_lst hd2) b4⟩
  · rintro H1 acc hl ⟨ps, rfl, hl2, each, f, hr1, hd1, dr⟩ _
    refine ⟨hr1, fun l hlf => ?_⟩
    have gD : G D = none := by
      rw [upd_ne dr] at hD
      exact hD
    have fr := upd_free hlf
    have ld : l ≠ D := fun e => by
      rw [e, hd1] at fr
      cases fr.2
    have fin : ∀ b o, b ≠ r → H1 b = some o → (upd (upd (upd H1 r (.ins CR dx [("shop", .ref sh), ("things", .ref t2), ("places", .ref D)])) l (.lst [])) r (.ins CR dx (rF (.ref sh) (.ref t2) (.ref D) (.ref l)))) b = some o := fun b o e1 e => by
      rw [upd_ne e1, upd_ne (fun z => by rw [z, fr.2] at e; cases e), upd_ne e1]
      exact e
    have g1 : ∀ b o, b ≠ r → G b = some o → H1 b = some o := fun b o e1 e => f b o e1 (ne_of_none e gD) e
    have tk : TK K H1 (upd (upd (upd H1 r (.ins CR dx [("shop", .ref sh), ("things", .ref t2), ("places", .ref D)])) l (.lst [])) r (.ins CR dx (rF (.ref sh) (.ref t2) (.ref D) (.ref l)))) := fun a xs q => sqT_but hr1 ins_ntup.1 ins_ntup.2 fin q
    refine k ⟨dx, sh, t2, D, l, ⟨tdx, cd, S.cells, hd, S.locks.map (fun s => (Sum.inr s, V.non)), rd, rows, S.bd, S.belts⟩, ps, []⟩ _ (fun b o e1 e => fin b o e1 (g1 b o e1 (b1 b o e1 e))) ⟨⟨upd_same, ⟨?_, ?_, ?_, ?_, ?_⟩, fin _ _ dr hd1, fun x hx => ?_, ?_⟩, ld⟩ rfl rfl rfl hk (fun p hp => ?_) rfl (hl2) (fun j x e => ?_) rfl ?_ ?_
    · exact fin _ _ (ne_of hT.ob or tF_shop) (g1 _ _ (ne_of hT.ob or tF_shop) hT.ob)
    · exact fin _ _ (ne_of hT.c or (by intro z; cases z)) (g1 _ _ (ne_of hT.c or (by intro z; cases z)) hT.c)
    · exact fin _ _ (ne_of hT.h or (by intro z; cases z)) (g1 _ _ (ne_of hT.h or (by intro z; cases z)) hT.h)
    · exact fin _ _ (ne_of hT.r or (by intro z; cases z)) (g1 _ _ (ne_of hT.r or (by intro z; cases z)) hT.r)
    · exact fin _ _ (ne_of hT.s or (by intro z; cases z)) (g1 _ _ (ne_of hT.s or (by intro z; cases z)) hT.s)
    · obtain ⟨j, hj, e⟩ := List.mem_iff_getElem.mp hx
      have q := (each j x (by rw [List.getElem?_eq_getElem hj, e])).1
      exact ⟨fin _ _ (ne_of q.ob hr1 pF_shop) q.ob, tk _ _ q.a, tk _ _ q.w⟩
    · exact (upd_ne fr.1).trans upd_same
    · obtain ⟨a, e1, e2⟩ := hr p hp
      exact ⟨a, e1, tk _ _ (sqT_but or ins_ntup.1 ins_ntup.2 g1 e2)⟩
    · obtain ⟨_, q2, q3⟩ := each j x e
      have hj : j < m := hl2 ▸ (List.getElem?_eq_some_iff.mp e).1
      exact ⟨q2, hB j hj _ _ _ _ _ _ tk q3⟩
    · show H D = none
      cases e : H D with
      | none => rfl
      | some o =>
        rw [b1 _ _ dr e] at gD
        cases gD
    · show H l = none
      cases e : H l with
      | none => rfl
      | some o =>
        rw [f _ _ fr.1 ld (b1 _ _ fr.1 e)] at fr
        cases fr.2
end
end TW
namespace TW
open PySem PySem.Spec PyProof.Rows L2
abbrev sSource : Stmt := top 65
abbrev sDraw : Stmt := top 66
/-- three numbers, the third 0 as yet -/
def spSource (K : PySem.W.Frag) : Sp := fun vs H Q _ => ∃ (a : Addr) (ns : List Int) (i : Nat), vs = [.ref a, .int (i : Int)] ∧ SqL K H a (ns.map V.int) ∧ ns.length ≤ 63 ∧
  ∀ (p : Addr) (x y : Int), H p = none → Q (.ref p) (upd H p (.lst [.int x, .int y, .int 0]))
/-- a number from 0 to below m -/
def spDraw : Sp := fun vs H Q _ => ∃ (p : Addr) (a b c m : Int), vs = [.ref p, .int m] ∧ H p = some (.lst [.int a, .int b, .int c]) ∧ 0 < m ∧ m < 1073741824 ∧
  ∀ r a' b' c' : Int, 0 ≤ r → r < m → Q (.int r) (upd H p (.lst [.int a', .int b', .int c']))
theorem atI_map {ns : List Int} {i : Nat} (h : i < ns.length) : atI (ns.map V.int) (i : Int) = some (.int (ns[i]'h)) := by
  rw [atI_nat]
  rw [List.getElem?_map, List.getElem?_eq_getElem h]
  rfl
section
variable {P : Program} {w : World} {K : PySem.W.Frag} {mg : Str → Option Value} {base : Heap}
theorem scSource : FnScope ["_law_script", "_law_at", "_law_cell"] ["_law_script", "_law_at"] (defScope sSource) := ⟨rfl, rfl, rfl, by decide +kernel, rfl, by decide +kernel, by decide +kernel⟩
theorem ok_source {f : Addr} {fd : FuncData} (F : Fun K "_law_source" "_law_source" sSource f fd) (B : Blt mg) : FnOk P w K mg base CX0 1 f fd ["_law_script", "_law_at"] (spSource K) := by
  refine F.ok scSource (fun vs H Q E h => ?_) (fun cdv A outer s H vs Q E hr h => ?_)
  · obtain ⟨a, ns, i, rfl, _⟩ := h
    rfl
  · obtain ⟨a, ns, i, rfl, hS, hl, k⟩ := h
    refine ⟨_, pss_cons (ps_set (i := 2) scSource.nd rfl (.inl rfl)
        (pe_ifExp (pt_cmpR op_lt (pv 1) (pe_callB call_len_seq (by rfl) B.len PySem.boot_len (pa_cons (pv 0) pa_nil)) (nomark _))
          (pe_ix ix_list (pv 0) (pv 1) (fun _ _ => rfl)) (pe_op op_add (pe_op op_mul pe_int (pv 1)) pe_int)))
      (pss_one (ps_ret (pe_lst (pa_cons (pe_ifExp (pt_cmpR op_ge (pv 2) (pe_op op_pow pe_int pe_int) (nomark _)) (pv 2) pe_int)
        (pa_cons (pe_op op_mod (pe_callTy call_int1 (by rfl) B.int (by decide +kernel) (pa_cons (pv 2) pa_nil)) pe_int) (pa_cons pe_int pa_nil)))))), ?_⟩
    have rest : ∀ z : Int, tRet (tLst (tCons (tIf (tTest (tOp (rI0 fun i j => .bl (decide (j ≤ i))) (tVar 2) (tOp (rI CPow fun i j => .int (i ^ j.toNat)) (tC (.int 10)) (tC (.int 18))))) (tVar 2) (tC (.int 0)))
        (tCons (tOp (rI (fun _ j => 0 < j) fun i j => .int (i % j)) (tCB (fun xs H Q => (∃ i, xs = [.int i] ∧ Q (.int i) H) ∨ ∃ k, xs = [.bl k] ∧ Q (.int (if k then 1 else 0)) H) (tCons (tVar 2) tNil)) (tC (.int 2147483647))) (tCons (tC (.int 0)) tNil))))
        { nx := fun _ H' => Q .non H', rt := Q } [some (.ref a), some (.int (i : Int)), some (.int z)] H := by
      intro z
      refine ⟨_, rfl, _, _, rfl, rfl, ⟨by decide, by decide, by decide⟩, _, _, rfl, rfl, _, rfl, ?_⟩
      refine ite2 (fun _ => ?_) (fun _ => ?_)
      · exact ⟨_, rfl, _, rfl, .inl ⟨_, rfl, _, _, rfl, rfl, by show (0 : Int) < 2147483647; decide, by show 3 ≤ sizeLine; decide, fun p hp => k p _ _ hp⟩⟩
      · exact ⟨_, rfl, .inl ⟨_, rfl, _, _, rfl, rfl, by show (0 : Int) < 2147483647; decide, by show 3 ≤ sizeLine; decide, fun p hp => k p _ _ hp⟩⟩
    refine ⟨_, rfl, _, rfl, a, _, rfl, .inl hS, _, _, rfl, rfl, _, rfl, ?_⟩
    refine ite2 (fun c => ?_) (fun _ => ?_)
    · have hi : i < ns.length := by
        have z := of_decide_eq_true c
        rw [List.length_map] at z
        omega
      exact ⟨_, rfl, _, rfl, a, _, _, _, rfl, rfl, hS, atI_map hi, rest _⟩
    · exact ⟨_, rfl, _, _, rfl, rfl, .inl ⟨by decide, by decide⟩, _, _, rfl, rfl, rest _⟩
theorem scDraw : FnScope ["_law_draws", "_law_many", "_law_found"] ["_law_draws", "_law_many"] (defScope sDraw) := ⟨rfl, rfl, rfl, by decide +kernel, rfl, by decide +kernel, by decide +kernel⟩
theorem ok_draw {f : Addr} {fd : FuncData} (F : Fun K "_law_draw" "_law_draw" sDraw f fd) (B : Blt mg) : FnOk P w K mg base CX0 1 f fd ["_law_draws", "_law_many"] spDraw := by
  refine F.ok scDraw (fun vs H Q E h => ?_) (fun cdv A outer s H vs Q E hr h => ?_)
  · obtain ⟨p, a, b, c, m, rfl, _⟩ := h
    rfl
  · obtain ⟨p, a, b, c, m, rfl, hp, h0, h1, k⟩ := h
    refine ⟨_, pss_cons (ps_if (pt_cmpR op_gt (pe_ix ix_list (pv 0) pe_int (fun _ _ => rfl)) pe_int (nomark _))
        (pss_cons (ps_set (i := 2) scDraw.nd rfl (.inl rfl) (pe_op op_mod (pe_callTy call_int1 (by rfl) B.int (by decide +kernel) (pa_cons (pe_ix ix_list (pv 0) pe_int (fun _ _ => rfl)) pa_nil)) (pv 1)))
        (pss_cons (ps_asg (pe_op op_fdivN (pe_ix ix_list (pv 0) pe_int (fun _ _ => rfl)) (pv 1)) (pg_sub (pv 0) pe_int set_list))
        (pss_one (ps_ret (pv 2))))) pss_nil)
      (pss_cons (ps_asg (pe_op op_add (pe_ix ix_list (pv 0) pe_int (fun _ _ => rfl)) pe_int) (pg_sub (pv 0) pe_int set_list))
      (pss_cons (ps_asg (pe_op op_mod (pe_callTy call_int1 (by rfl) B.int (by decide +kernel) (pa_cons (pe_op op_add (pe_op op_add (pe_op op_mul (pe_ix ix_list (pv 0) pe_int (fun _ _ => rfl)) pe_int) (pe_op op_mul (pe_ix ix_list (pv 0) pe_int (fun _ _ => rfl)) pe_int)) pe_int) pa_nil)) pe_int) (pg_sub (pv 0) pe_int set_list))
      (pss_one (ps_ret (pe_op op_mod (pe_callTy call_int1 (by rfl) B.int (by decide +kernel) (pa_cons (pe_op op_add (pe_op op_fdiv (pe_ix ix_list (pv 0) pe_int (fun _ _ => rfl)) pe_int) (pe_ix ix_list (pv 0) pe_int (fun _ _ => rfl))) pa_nil)) (pv 1)))))), ?_⟩
    have at0 : ∀ x y z : V, atI [x, y, z] 0 = some x := fun _ _ _ => atI_nat (j := 0) rfl
    have at1 : ∀ x y z : V, atI [x, y, z] 1 = some y := fun _ _ _ => atI_nat (j := 1) rfl
    have at2 : ∀ x y z : V, atI [x, y, z] 2 = some z := fun _ _ _ => atI_nat (j := 2) rfl
    refine ⟨_, rfl, p, _, _, _, rfl, rfl, SqL.of hp, at0 _ _ _, _, _, rfl, rfl, _, rfl, ?_⟩
    refine ite2 (fun _ => ?_) (fun _ => ?_)
    · refine ⟨_, rfl, p, _, _, _, rfl, rfl, SqL.of hp, at0 _ _ _, .inl ⟨_, rfl, _, rfl, _, _, rfl, rfl, h0, ?_⟩⟩
      refine ⟨_, rfl, p, _, _, _, rfl, rfl, SqL.of hp, at0 _ _ _, _, rfl, _, _, rfl, rfl, ⟨by omega, by omega⟩, ?_⟩
      refine ⟨_, rfl, p, _, _, 0, rfl, rfl, hp, rfl, ?_⟩
      exact ⟨_, rfl, k _ _ _ _ (Int.emod_nonneg _ (by omega)) (Int.emod_lt_of_pos _ h0)⟩
    · refine ⟨_, rfl, p, _, _, _, rfl, rfl, SqL.of hp, at2 _ _ _, _, _, rfl, rfl, _, rfl, p, _, _, 2, rfl, rfl, hp, rfl, ?_⟩
      refine ⟨_, rfl, p, _, _, _, rfl, rfl, SqL.of upd_same, at1 _ _ _, _, _, rfl, rfl, .inr ⟨by decide, by decide⟩, ?_⟩
      refine ⟨_, rfl, p, _, _, _, rfl, rfl, SqL.of upd_same, at2 _ _ _, _, _, rfl, rfl, .inr ⟨by decide, by decide⟩, ?_⟩
      refine ⟨_, _, rfl, rfl, _, _, rfl, rfl, .inl ⟨_, rfl, _, _, rfl, rfl, by show (0 : Int) < 2147483647; decide, ?_⟩⟩
      refine ⟨_, rfl, p, _, _, 1, rfl, rfl, upd_same, rfl, ?_⟩
      refine ⟨_, rfl, p, _, _, _, rfl, rfl, SqL.of upd_same, at1 _ _ _, _, _, rfl, rfl, ⟨by decide, by decide⟩, ?_⟩
      refine ⟨_, rfl, p, _, _, _, rfl, rfl, SqL.of upd_same, at1 _ _ _, _, _, rfl, rfl, .inl ⟨_, rfl, _, rfl, _, _, rfl, rfl, h0, ?_⟩⟩
      rw [upd_upd]
      exact k _ _ _ _ (Int.emod_nonneg _ (by omega)) (Int.emod_lt_of_pos _ h0)
end
end TW
namespace TW
open PySem PySem.Spec PyProof.Rows L2
/-- equal data, of one kind, nested at most n deep -/
inductive Tw (K : PySem.W.Frag) (H : Hp) : Nat → V → V → Prop where
  | non (n : Nat) : Tw K H n .non .non
  | bl (n : Nat) (b : Bool) : Tw K H n (.bl b) (.bl b)
  | int (n : Nat) (i : Int) : Tw K H n (.int i) (.int i)
  | str (n : Nat) (x : Str) : Tw K H n (.str x) (.str x)
  | lst {n : Nat} {a b : Addr} {xs ys : List V} (ha : SqL K H a xs) (hb : SqL K H b ys) (hl : xs.length = ys.length) (few : xs.length ≤ 1000) (each : ∀ (i : Nat) (x y : V), xs[i]? = some x → ys[i]? = some y → Tw K H n x y) : Tw K H (n + 1) (.ref a) (.ref b)
  | tup {n : Nat} {a b : Addr} {xs ys : List V} (ha : SqT K H a xs) (hb : SqT K H b ys) (hl : xs.length = ys.length) (few : xs.length ≤ 1000) (each : ∀ (i : Nat) (x y : V), xs[i]? = some x → ys[i]? = some y → Tw K H n x y) : Tw K H (n + 1) (.ref a) (.ref b)
/-- lists and tuples stand as they stood -/
structure Seqs (K : PySem.W.Frag) (H H' : Hp) : Prop where
  l : ∀ {a : Addr} {xs : List V}, SqL K H a xs → SqL K H' a xs
  t : ∀ {a : Addr} {xs : List V}, SqT K H a xs → SqT K H' a xs
section
variable {K : PySem.W.Frag} {H H' : Hp}
theorem Seqs.of (e : Same H H') : Seqs K H H' := ⟨fun h => e.seq h, fun h => seqT_same e h⟩
theorem Tw.keep {n : Nat} {x y : V} (e : Seqs K H H') (h : Tw K H n x y) : Tw K H' n x y := by
  induction h with
  | non n => exact .non n
  | bl n b => exact .bl n b
  | int n i => exact .int n i
  | str n x => exact .str n x
  | lst ha hb hl few _ ih => exact .lst (e.l ha) (e.l hb) hl few fun i x y h1 h2 => ih i x y h1 h2
  | tup ha hb hl few _ ih => exact .tup (e.t ha) (e.t hb) hl few fun i x y h1 h2 => ih i x y h1 h2
theorem Tw.same {n : Nat} {x y : V} (e : Same H H') (h : Tw K H n x y) : Tw K H' n x y := h.keep (.of e)
end
/-- x is neither a list nor a tuple: what isinstance says of it -/
structure Flat (K : PySem.W.Frag) (x : V) (T : String) (isN : Bool) : Prop where
  ty : ∀ H, TyX K H x (.type T)
  sc : scal x x = true
  seq : kitAB T ["list", "tuple"] = some false
  num : kitAB T ["bool", "int"] = some isN
  int : isN = true → kitB T "int" = some true
  bool : isN = true → ∃ b, kitB T "bool" = some b
  four : isN = false → kitAB T ["bool", "int", "list", "tuple"] = some false
theorem Tw.kinds {K : PySem.W.Frag} {H : Hp} {n : Nat} {x y : V} (h : Tw K H n x y) : (y = x ∧ ∃ T num, Flat K x T num) ∨
    (∃ m a b xs ys, n = m + 1 ∧ x = .ref a ∧ y = .ref b ∧ xs.length = ys.length ∧ xs.length ≤ 1000 ∧ (∀ (i : Nat) (x y : V), xs[i]? = some x → ys[i]? = some y → Tw K H m x y) ∧
      ((SqL K H a xs ∧ SqL K H b ys) ∨ (SqT K H a xs ∧ SqT K H b ys))) := by
  cases h with
  | non => exact .inl ⟨rfl, "NoneType", false, ⟨fun _ => .base .non, rfl, by decide +kernel, by decide +kernel, fun z => (nomatch z), fun z => (nomatch z), fun _ => by decide +kernel⟩⟩
  | bl _ b => exact .inl ⟨rfl, "bool", true, ⟨fun _ => .base (.bl b), rfl, by decide +kernel, by decide +kernel, fun _ => by decide +kernel, fun _ => ⟨true, by decide +kernel⟩, fun z => (nomatch z)⟩⟩
  | int _ i => exact .inl ⟨rfl, "int", true, ⟨fun _ => .base (.int i), rfl, by decide +kernel, by decide +kernel, fun _ => by decide +kernel, fun _ => ⟨false, by decide +kernel⟩, fun z => (nomatch z)⟩⟩
  | str _ s => exact .inl ⟨rfl, "str", false, ⟨fun _ => .base (.str s), rfl, by decide +kernel, by decide +kernel, fun z => (nomatch z), fun z => (nomatch z), fun _ => by decide +kernel⟩⟩
  | lst ha hb hl few each => exact .inr ⟨_, _, _, _, _, rfl, rfl, rfl, hl, few, each, .inl ⟨ha, hb⟩⟩
  | tup ha hb hl few each => exact .inr ⟨_, _, _, _, _, rfl, rfl, rfl, hl, few, each, .inr ⟨ha, hb⟩⟩
theorem four_sz : 4 ≤ sizeLine := by
  rw [sizeLine_eq]
  decide
/-- a tuple of names as a comprehension's target -/
theorem pg_tupB {X : Cx} {s : Shared} {H : Hp} {scope : Scope} {env : Env} {fp : List Addr} {es : List Expr} {k n : Nat} {t : TGs} {pos : Pos} (hc : (X.blk s H scope env fp).calm = true) (h : PGs (X.blk s H scope env fp) es t)
    (hn : (assignEach es (X.blk s H scope env fp).env).length = n := by rfl) (hst : (assignEach es (X.blk s H scope env fp).env).findIdx? (·.1) = none := by rfl) : PG (X.blk s H scope env fp) (.Tuple es k pos) (gTup X.K n t) :=
  pg_tup (X := X.blk s H scope env fp) hc h hn hst
/-- the law's own same: True of equal data of one kind -/
def spSame (K : PySem.W.Frag) (n : Nat) : Sp := fun vs H Q _ => ∃ x y : V, vs = [x, y] ∧ Tw K H n x y ∧ ∀ H', Same H H' → Q (.bl true) H'
abbrev sSame : Stmt := top 68
section
variable {P : Program} {w : World} {K : PySem.W.Frag} {mg : Str → Option Value} {base : Heap}
theorem scSame : FnScope ["_law_found", "_law_due", "_law_left", "_law_right"] ["_law_found", "_law_due"] (defScope sSame) := ⟨rfl, rfl, rfl, by decide +kernel, rfl, by decide +kernel, by decide +kernel⟩
theorem same_body {f : Addr} {fd : FuncData} {n k : Nat} {spR : Sp} (F : Fun K "_law_same" "_law_same" sSame f fd) (B : Blt mg) (hm : mg "_law_same" = some (.ref f)) (bS : Binds K fd ["_law_found", "_law_due"] [])
    (R : FnOk P w K mg base CX0 k f fd ["_law_found", "_law_due"] spR) (hR : ∀ m, n = m + 1 → spR = spSame K m) : FnOk P w K mg base CX0 (k + 1) f fd ["_law_found", "_law_due"] (spSame K n) := by
  refine F.ok scSame (fun vs H Q E h => ?_) (fun cdv A outer s H vs Q E hr h => ?_)
  · obtain ⟨x, y, rfl, _⟩ := h
    rfl
  · obtain ⟨x, y, rfl, hT, kQ⟩ := h
    refine ⟨_, pss_cons (ps_if (pt_val (pe_callB call_isiT (by rfl) B.isi (by decide +kernel) (pa_cons (pv 1) (pa_cons (pe_tup (pa_cons (pe_bltn (v := .ty "list") (by rfl) B.list (by decide +kernel) rfl) (pa_cons (pe_bltn (v := .ty "tuple") (by rfl) B.tuple (by decide +kernel) rfl) pa_nil))) pa_nil))))
        (pss_cons (ps_if (PW.pt (pw_or (pt_cmpR op_ne (pe_callB call_isi (by rfl) B.isi (by decide +kernel) (pa_cons (pv 0) (pa_cons (pe_bltn (v := .ty "list") (by rfl) B.list (by decide +kernel) rfl) pa_nil))) (pe_callB call_isi (by rfl) B.isi (by decide +kernel) (pa_cons (pv 1) (pa_cons (pe_bltn (v := .ty "list") (by rfl) B.list (by decide +kernel) rfl) pa_nil))) (nomark _))
            (pw_or1 (pt_cmpR op_ne (pe_callB call_isi (by rfl) B.isi (by decide +kernel) (pa_cons (pv 0) (pa_cons (pe_bltn (v := .ty "tuple") (by rfl) B.tuple (by decide +kernel) rfl) pa_nil))) (pe_callB call_isi (by rfl) B.isi (by decide +kernel) (pa_cons (pv 1) (pa_cons (pe_bltn (v := .ty "tuple") (by rfl) B.tuple (by decide +kernel) rfl) pa_nil))) (nomark _)))))
          (pss_one (ps_ret pe_bl)) pss_nil)
        (pss_one (ps_ret (pe_and (pe_cmpR op_eq (pe_callB call_len_seq (by rfl) B.len PySem.boot_len (pa_cons (pv 0) pa_nil)) (pe_callB call_len_seq (by rfl) B.len PySem.boot_len (pa_cons (pv 1) pa_nil)) (nomark _))
          (pe_one (pe_callB (cr_all rfl) (by rfl) B.all (by decide +kernel) (pa_cons
            (pe_lc (own := [("_law_left", 2), ("_law_right", 3)]) rfl scSame.nd (RZ.pi_zipA (by rfl) B.zip (pa_cons (pv 0) (pa_cons (pv 1) pa_nil))) (blkOk_by (N := ["_law_found", "_law_due", "_law_left", "_law_right"]) (sc := defScope sSame) (by decide +kernel))
              (fun _ _ _ _ _ => pg_tupB (n := 2) rfl (pgs_cons (pg_name (i := 2) scSame.nd rfl (Or.inl rfl)) (pgs_cons (pg_name (i := 3) scSame.nd rfl (Or.inl rfl)) pgs_nil))) (fun _ _ _ _ _ => pts_nil)
              (fun _ _ _ _ _ => pe_call R hr rfl hm F.kp bS .nil pass0 (pa_cons (pv 2) (pa_cons (pv 3) pa_nil)))) pa_nil)))))))
        pss_nil)
      (pss_cons (ps_if (pt_val (pe_callB call_isiT (by rfl) B.isi (by decide +kernel) (pa_cons (pv 1) (pa_cons (pe_tup (pa_cons (pe_bltn (v := .ty "bool") (by rfl) B.bool (by decide +kernel) rfl) (pa_cons (pe_bltn (v := .ty "int") (by rfl) B.int (by decide +kernel) rfl) pa_nil))) pa_nil))))
        (pss_one (ps_ret (pe_and (pe_callB call_isi (by rfl) B.isi (by decide +kernel) (pa_cons (pv 0) (pa_cons (pe_bltn (v := .ty "int") (by rfl) B.int (by decide +kernel) rfl) pa_nil)))
          (pe_and (pe_cmpR op_eq (pe_callB call_isi (by rfl) B.isi (by decide +kernel) (pa_cons (pv 0) (pa_cons (pe_bltn (v := .ty "bool") (by rfl) B.bool (by decide +kernel) rfl) pa_nil))) (pe_callB call_isi (by rfl) B.isi (by decide +kernel) (pa_cons (pv 1) (pa_cons (pe_bltn (v := .ty "bool") (by rfl) B.bool (by decide +kernel) rfl) pa_nil))) (nomark _))
            (pe_one (pe_cmpR op_eq (pv 0) (pv 1) (nomark _))))))) pss_nil)
      (pss_one (ps_ret (pe_and (pe_not (pe_callB call_isiT (by rfl) B.isi (by decide +kernel) (pa_cons (pv 0) (pa_cons (pe_tup (pa_cons (pe_bltn (v := .ty "bool") (by rfl) B.bool (by decide +kernel) rfl) (pa_cons (pe_bltn (v := .ty "int") (by rfl) B.int (by decide +kernel) rfl) (pa_cons (pe_bltn (v := .ty "list") (by rfl) B.list (by decide +kernel) rfl) (pa_cons (pe_bltn (v := .ty "tuple") (by rfl) B.tuple (by decide +kernel) rfl) pa_nil))))) pa_nil))))
        (pe_one (pe_cmpR op_eq (pv 0) (pv 1) (nomark _))))))), ?_⟩
    rcases hT.kinds with ⟨rfl, T, num, Fl⟩ | ⟨m, a, b, xs, ys, rfl, rfl, rfl, hl, few, each, hs⟩
    · -- neither a list nor a tuple
      refine ⟨_, rfl, two_sz, fun p hp => ?_⟩
      refine ⟨_, p, _, _, [.type "list", .type "tuple"], _, rfl, upd_same, .cons (.ty _) (.cons (.ty _) .nil), Fl.ty _, kitA (cs := ["list", "tuple"]) Fl.seq, _, rfl, ?_⟩
      refine iteF ?_
      refine ⟨_, rfl, two_sz, fun p2 hp2 => ?_⟩
      refine ⟨_, p2, _, _, [.type "bool", .type "int"], _, rfl, upd_same, .cons (.ty _) (.cons (.ty _) .nil), Fl.ty _, kitA (cs := ["bool", "int"]) Fl.num, _, rfl, ?_⟩
      have s2 : Same H (upd (upd H p (.tup [.ty "list", .ty "tuple"])) p2 (.tup [.ty "bool", .ty "int"])) := (same_new hp).trans (same_new hp2)
      cases num with
      | true =>
        refine iteT ?_
        obtain ⟨bb, hbb⟩ := Fl.bool rfl
        refine ⟨_, rfl, _, _, _, _, _, rfl, .ty _, Fl.ty _, kit_ty (Fl.int rfl), _, rfl, ?_⟩
        refine iteT ?_
        refine ⟨_, rfl, _, _, _, _, _, rfl, .ty _, Fl.ty _, kit_ty hbb, _, rfl, _, _, _, _, _, rfl, .ty _, Fl.ty _, kit_ty hbb, rfl, _, rfl, ?_⟩
        refine iteD rfl ?_
        refine ⟨_, rfl, _, rfl, Fl.sc, ?_⟩
        rw [decide_eq_true rfl]
        exact kQ _ s2
      | false =>
        refine iteF ?_
        refine ⟨_, rfl, four_sz, fun p3 hp3 => ?_⟩
        refine ⟨_, p3, _, _, [.type "bool", .type "int", .type "list", .type "tuple"], _, rfl, upd_same, .cons (.ty _) (.cons (.ty _) (.cons (.ty _) (.cons (.ty _) .nil))), Fl.ty _, kitA (cs := ["bool", "int", "list", "tuple"]) (Fl.four rfl), _, rfl, _, rfl, ?_⟩
        refine iteT ?_
        refine ⟨_, rfl, _, rfl, Fl.sc, ?_⟩
        rw [decide_eq_true rfl]
        exact kQ _ (s2.trans (same_new hp3))
    · -- a list or a tuple, both
      have hRm := hR m rfl
      subst hRm
      obtain ⟨T, b1, b2, hTs, e1, e2, tyA, tyB⟩ : ∃ (T : String) (b1 b2 : Bool), kitAB T ["list", "tuple"] = some true ∧ kitB T "list" = some b1 ∧ kitB T "tuple" = some b2 ∧ (∀ H', Same H H' → TyX K H' (.ref a) (.type T)) ∧ (∀ H', Same H H' → TyX K H' (.ref b) (.type T)) := by
        rcases hs with ⟨ha, hb⟩ | ⟨ha, hb⟩
        · exact ⟨"list", true, false, by decide +kernel, by decide +kernel, by decide +kernel, fun H' e => tyx_list (e.seq ha), fun H' e => tyx_list (e.seq hb)⟩
        · exact ⟨"tuple", false, true, by decide +kernel, by decide +kernel, by decide +kernel, fun H' e => tyx_tup (seqT_same e ha), fun H' e => tyx_tup (seqT_same e hb)⟩
      refine ⟨_, rfl, two_sz, fun p hp => ?_⟩
      have s1 : Same H (upd H p (.tup [.ty "list", .ty "tuple"])) := same_new hp
      refine ⟨_, p, _, _, [.type "list", .type "tuple"], _, rfl, upd_same, .cons (.ty _) (.cons (.ty _) .nil), tyB _ s1, kitA (cs := ["list", "tuple"]) hTs, _, rfl, ?_⟩
      refine iteT ?_
      refine ⟨_, rfl, _, _, _, _, _, rfl, .ty _, tyA _ s1, kit_ty e1, _, rfl, _, _, _, _, _, rfl, .ty _, tyB _ s1, kit_ty e1, rfl, _, rfl, ?_⟩
      refine iteNS rfl ?_
      refine ⟨_, rfl, _, _, _, _, _, rfl, .ty _, tyA _ s1, kit_ty e2, _, rfl, _, _, _, _, _, rfl, .ty _, tyB _ s1, kit_ty e2, rfl, _, rfl, ?_⟩
      refine iteNS rfl ?_
      rcases hs with ⟨ha, hb⟩ | ⟨ha, hb⟩
      · refine ⟨_, rfl, a, _, rfl, .inl (s1.seq ha), _, rfl, b, _, rfl, .inl (s1.seq hb), rfl, _, rfl, ?_⟩
        refine iteD (by rw [hl]) ?_
        refine ⟨_, rfl, _, rfl, a, b, xs, ys, rfl, .inl ⟨s1.seq ha, s1.seq hb, fun D hD => ?_⟩⟩
        refine lc_it (walk_zip rfl) (fun i H' => Same (upd H p (.tup [.ty "list", .ty "tuple"])) H' ∧ H' D = some (.lst (List.replicate i (.bl true)))) ⟨same_new hD, upd_same⟩ (fun i H' _ z => ⟨z.1.seq (s1.seq ha), z.1.seq (s1.seq hb)⟩) ?_ ?_
        · rintro i v H' H'' hi ⟨z, hd⟩ ⟨T', x, y, rfl, hT', rfl, hx, hy⟩
          refine ⟨T', [x, y], rfl, SqT.of upd_same, rfl, x, [y], rfl, y, [], rfl, rfl, rfl, ?_⟩
          unfold tYes
          dsimp only
          refine iteT ?_
          refine ⟨_, rfl, _, rfl, x, y, rfl, (each i x y hx hy).same (s1.trans (z.trans (same_new hT'))), fun H4 s4 => ?_⟩
          refine ⟨_, s4 _ _ (same_new hT' _ _ hd), ?_, fun c o e => ?_, ?_⟩
          · rw [List.length_replicate, sizeLine_eq]
            omega
          · rw [upd_ne (ne_of_none e hD)]
            exact s4 c o (same_new hT' c o (z c o e))
          · rw [upd_same, List.replicate_succ']
        · rintro H' ⟨z, hd⟩
          refine ⟨D, List.replicate (min xs.length ys.length) true, rfl, SqL.of (by rw [List.map_replicate]; exact hd), ?_⟩
          have e : (List.replicate (min xs.length ys.length) true).all id = true := by simp
          rw [e]
          exact kQ _ (s1.trans z)
      · refine ⟨_, rfl, a, _, rfl, .inr (seqT_same s1 ha), _, rfl, b, _, rfl, .inr (seqT_same s1 hb), rfl, _, rfl, ?_⟩
        refine iteD (by rw [hl]) ?_
        refine ⟨_, rfl, _, rfl, a, b, xs, ys, rfl, .inr ⟨seqT_same s1 ha, seqT_same s1 hb, fun D hD => ?_⟩⟩
        refine lc_it (walk_zipT rfl) (fun i H' => Same (upd H p (.tup [.ty "list", .ty "tuple"])) H' ∧ H' D = some (.lst (List.replicate i (.bl true)))) ⟨same_new hD, upd_same⟩ (fun i H' _ z => ⟨seqT_same z.1 (seqT_same s1 ha), seqT_same z.1 (seqT_same s1 hb)⟩) ?_ ?_
        · rintro i v H' H'' hi ⟨z, hd⟩ ⟨T', x, y, rfl, hT', rfl, hx, hy⟩
          refine ⟨T', [x, y], rfl, SqT.of upd_same, rfl, x, [y], rfl, y, [], rfl, rfl, rfl, ?_⟩
          unfold tYes
          dsimp only
          refine iteT ?_
          refine ⟨_, rfl, _, rfl, x, y, rfl, (each i x y hx hy).same (s1.trans (z.trans (same_new hT'))), fun H4 s4 => ?_⟩
          refine ⟨_, s4 _ _ (same_new hT' _ _ hd), ?_, fun c o e => ?_, ?_⟩
          · rw [List.length_replicate, sizeLine_eq]
            omega
          · rw [upd_ne (ne_of_none e hD)]
            exact s4 c o (same_new hT' c o (z c o e))
          · rw [upd_same, List.replicate_succ']
        · rintro H' ⟨z, hd⟩
          refine ⟨D, List.replicate (min xs.length ys.length) true, rfl, SqL.of (by rw [List.map_replicate]; exact hd), ?_⟩
          have e : (List.replicate (min xs.length ys.length) true).all id = true := by simp
          rw [e]
          exact kQ _ (s1.trans z)
theorem ok_lsame {f : Addr} {fd : FuncData} (F : Fun K "_law_same" "_law_same" sSame f fd) (B : Blt mg) (hm : mg "_law_same" = some (.ref f)) (bS : Binds K fd ["_law_found", "_law_due"] []) :
    ∀ n : Nat, FnOk P w K mg base CX0 (n + 1) f fd ["_law_found", "_law_due"] (spSame K n)
  | 0 => same_body (k := 0) F B hm bS fn_never fun m e => nomatch e
  | n + 1 => same_body (k := n + 1) F B hm bS (ok_lsame F B hm bS n) fun m e => by
    cases e
    rfl
end
end TW
namespace TW
open PySem PySem.Spec PyProof.Rows L2
abbrev sPick : Stmt := top 67
/-- one of some things -/
def spPick (K : PySem.W.Frag) : Sp := fun vs H Q _ => ∃ (p l : Addr) (a b c : Int) (xs : List V), vs = [.ref p, .ref l] ∧ H p = some (.lst [.int a, .int b, .int c]) ∧ SqL K H l xs ∧ 0 < xs.length ∧ xs.length ≤ 1000 ∧ (∀ a' b' c' : Int, SqL K (upd H p (.lst [.int a', .int b', .int c'])) l xs) ∧
  ∀ (j : Nat) (v : V) (a' b' c' : Int), xs[j]? = some v → Q v (upd H p (.lst [.int a', .int b', .int c']))
section
variable {P : Program} {w : World} {K : PySem.W.Frag} {mg : Str → Option Value} {base : Heap}
theorem scPick : FnScope ["_law_draws", "_law_xs"] ["_law_draws", "_law_xs"] (defScope sPick) := ⟨rfl, rfl, rfl, by decide +kernel, rfl, by decide +kernel, by decide +kernel⟩
theorem ok_pick {f fD : Addr} {fd fdD : FuncData} (F : Fun K "_law_pick" "_law_pick" sPick f fd) (B : Blt mg) (GD : FnOk P w K mg base CX0 1 fD fdD ["_law_draws", "_law_many"] spDraw) (mD : mg "_law_draw" = some (.ref fD)) (kD : PySem.W.keepIn K (.ref fD) = true) (bD : Binds K fdD ["_law_draws", "_law_many"] []) :
    FnOk P w K mg base CX0 2 f fd ["_law_draws", "_law_xs"] (spPick K) := by
  refine F.ok scPick (fun vs H Q E h => ?_) (fun cdv A outer s H vs Q E hr h => ?_)
  · obtain ⟨p, l, a, b, c, xs, rfl, _⟩ := h
    rfl
  · obtain ⟨p, l, a, b, c, xs, rfl, hp, hl, h0, h1, kp, k⟩ := h
    refine ⟨_, pss_one (ps_ret (pe_ix ix_list (pv 1) (pe_call GD hr rfl mD kD bD .nil pass0 (pa_cons (pv 0) (pa_cons (pe_callB call_len_seq (by rfl) B.len PySem.boot_len (pa_cons (pv 1) pa_nil)) pa_nil))) (fun _ _ => rfl))), ?_⟩
    refine ⟨_, rfl, _, rfl, _, rfl, l, xs, rfl, .inl hl, p, a, b, c, (xs.length : Nat), rfl, hp, by omega, by omega, fun r a' b' c' r0 r1 => ?_⟩
    obtain ⟨j, rfl, hj⟩ : ∃ j : Nat, r = (j : Int) ∧ j < xs.length := ⟨r.toNat, by omega, by omega⟩
    exact ⟨l, xs, _, _, rfl, rfl, kp a' b' c', atI_nat (j := j) (List.getElem?_eq_getElem hj), k j _ a' b' c' (List.getElem?_eq_getElem hj)⟩
end
end TW
namespace TW
open PySem PySem.Spec PyProof.Rows L2
/-- a value, nested at most n deep, with what it is -/
inductive VD (K : PySem.W.Frag) (H : Hp) : Nat → V → PyData → Prop where
  | non (n : Nat) : VD K H n .non .none
  | bl (n : Nat) (b : Bool) : VD K H n (.bl b) (.bool b)
  | int (n : Nat) (i : Int) : VD K H n (.int i) (.int i)
  | str (n : Nat) (x : Str) (ok : PyData.canLay0 (.str x) = true) : VD K H n (.str x) (.str x)
  | tup {n : Nat} {a : Addr} {xs : List V} {ds : List PyData} (h : SqT K H a xs) (hl : xs.length = ds.length) (few : xs.length ≤ 1000) (each : ∀ (i : Nat) (x : V) (d : PyData), xs[i]? = some x → ds[i]? = some d → VD K H n x d) : VD K H (n + 1) (.ref a) (.tuple ds)
section
variable {K : PySem.W.Frag} {H H' : Hp}
theorem VD.tk {n : Nat} {x : V} {d : PyData} (e : TK K H H') (h : VD K H n x d) : VD K H' n x d := by
  induction h with
  | non n => exact .non n
  | bl n b => exact .bl n b
  | int n i => exact .int n i
  | str n x ok => exact .str n x ok
  | tup h hl few _ ih => exact .tup (e _ _ h) hl few fun i x d h1 h2 => ih i x d h1 h2
theorem VD.vn {n : Nat} {x : V} {d : PyData} (h : VD K H n x d) : Vn K H n x true := by
  induction h with
  | non n => exact .non n
  | bl n b => exact .bl n b
  | int n i => exact .int n i
  | str n x ok => exact .str n x
  | @tup n a xs ds h hl few _ ih =>
    have z := Vn.tup (n := n) (bs := List.replicate xs.length true) h (by rw [List.length_replicate]) few fun i x b h1 h2 => by
      have hi := (List.getElem?_eq_some_iff.mp h1).1
      obtain ⟨d, hd⟩ : ∃ d, ds[i]? = some d := ⟨_, List.getElem?_eq_getElem (hl ▸ hi)⟩
      have e : b = true := by
        rw [List.getElem?_replicate, if_pos hi] at h2
        exact (Option.some.inj h2).symm
      rw [e]
      exact ih i x d h1 hd
    have e : (List.replicate xs.length true).all id = true := by simp
    rw [e] at z
    exact z
theorem VD.vns {n : Nat} {x : V} {d : PyData} (h : VD K H n x d) : VnS K H n x := fun _ e => (h.tk e).vn
theorem VD.tw {n : Nat} {x : V} {d : PyData} (h : VD K H n x d) : ∀ {y : V}, VD K H n y d → Tw K H n x y := by
  induction h with
  | non n => intro y q; cases q; exact .non n
  | bl n b => intro y q; cases q; exact .bl n b
  | int n i => intro y q; cases q; exact .int n i
  | str n x ok => intro y q; cases q; exact .str n x
  | @tup n a xs ds h hl few each ih =>
    intro y q
    cases q with
    | tup h2 hl2 few2 each2 =>
      refine .tup h h2 (by rw [hl, hl2]) few fun i x y h1 h3 => ?_
      obtain ⟨d, hd⟩ : ∃ d, ds[i]? = some d := ⟨_, List.getElem?_eq_getElem (hl ▸ (List.getElem?_eq_some_iff.mp h1).1)⟩
      exact ih i x d h1 hd (each2 i y d h3 hd)
theorem dpAll_at : ∀ {xs : List V} {ds : List PyData}, xs.length = ds.length → (∀ (i : Nat) (x : V) (d : PyData), xs[i]? = some x → ds[i]? = some d → Dp K H x d) → DpAll K H xs ds
  | [], [], _, _ => .nil
  | x :: xs, d :: ds, h, q => .cons (q 0 x d rfl rfl) (dpAll_at (Nat.succ.inj h) fun i x d h1 h2 => q (i + 1) x d h1 h2)
  | [], _ :: _, h, _ => nomatch h
  | _ :: _, [], h, _ => nomatch h
theorem VD.dp {n : Nat} {x : V} {d : PyData} (h : VD K H n x d) : Dp K H x d := by
  induction h with
  | non n => exact .non
  | bl n b => exact .bl b
  | int n i => exact .int i
  | str n x ok => exact .str x
  | tup h hl few _ ih => exact .tup h (dpAll_at hl ih)
theorem lay_all : ∀ {ds : List PyData}, (∀ (i : Nat) (d : PyData), ds[i]? = some d → d.canLay0 = true) → PyData.canLayAll0 ds = true
  | [], _ => rfl
  | d :: ds, q => by
    unfold PyData.canLayAll0
    rw [q 0 d rfl, lay_all fun i d h => q (i + 1) d h]
    rfl
theorem VD.lay {n : Nat} {x : V} {d : PyData} (h : VD K H n x d) : d.canLay0 = true := by
  induction h with
  | non n => rfl
  | bl n b => rfl
  | int n i => rfl
  | str n x ok => exact ok
  | @tup n a xs ds h hl few _ ih =>
    unfold PyData.canLay0
    exact lay_all fun i d hd => by
      obtain ⟨x, hx⟩ : ∃ x, xs[i]? = some x := ⟨_, List.getElem?_eq_getElem (hl ▸ (List.getElem?_eq_some_iff.mp hd).1)⟩
      exact ih i x d hx hd
theorem depth_all {n : Nat} : ∀ {ds : List PyData}, (∀ (i : Nat) (d : PyData), ds[i]? = some d → d.depth ≤ n) → PyData.depthAll ds ≤ n
  | [], _ => Nat.zero_le _
  | d :: ds, q => by
    unfold PyData.depthAll
    exact Nat.max_le.mpr ⟨q 0 d rfl, depth_all fun i d h => q (i + 1) d h⟩
theorem VD.depth {n : Nat} {x : V} {d : PyData} (h : VD K H n x d) : d.depth ≤ n := by
  induction h with
  | non n => exact Nat.zero_le _
  | bl n b => exact Nat.zero_le _
  | int n i => exact Nat.zero_le _
  | str n x ok => exact Nat.zero_le _
  | @tup n a xs ds h hl few _ ih =>
    unfold PyData.depth
    exact Nat.succ_le_succ (depth_all fun i d hd => by
      obtain ⟨x, hx⟩ : ∃ x, xs[i]? = some x := ⟨_, List.getElem?_eq_getElem (hl ▸ (List.getElem?_eq_some_iff.mp hd).1)⟩
      exact ih i x d hx hd)
theorem VD.shaped {n : Nat} {x : V} {d : PyData} (h : VD K H n x d) (hn : n ≤ 64) : SeqAt.shaped d = true := by
  unfold SeqAt.shaped
  rw [h.lay, decide_eq_true (Nat.le_trans h.depth hn)]
  rfl
end
def isT : PyData → Bool
  | .tuple _ => true
  | _ => false
def isB : PyData → Bool
  | .bool _ => true
  | _ => false
def isN : PyData → Bool
  | .bool _ => true
  | .int _ => true
  | _ => false
mutual
def sameD : PyData → PyData → Bool
  | .tuple xs, .tuple ys => sameAll xs ys
  | .none, .none => true
  | .bool a, .bool b => a == b
  | .int a, .int b => a == b
  | .str a, .str b => a == b
  | _, _ => false
def sameAll : List PyData → List PyData → Bool
  | [], [] => true
  | x :: xs, y :: ys => sameD x y && sameAll xs ys
  | _, _ => false
end
theorem sameAll_len : ∀ {xs ys : List PyData}, xs.length ≠ ys.length → sameAll xs ys = false
  | [], [], h => absurd rfl h
  | [], _ :: _, _ => rfl
  | _ :: _, [], _ => rfl
  | x :: xs, y :: ys, h => by
    unfold sameAll
    rw [sameAll_len fun e => h (congrArg (· + 1) e), Bool.and_false]
theorem sameAll_zip : ∀ {xs ys : List PyData}, xs.length = ys.length → sameAll xs ys = ((xs.zip ys).map fun p => sameD p.1 p.2).all id
  | [], [], _ => rfl
  | [], _ :: _, h => nomatch h
  | _ :: _, [], h => nomatch h
  | x :: xs, y :: ys, h => by
    unfold sameAll
    rw [sameAll_zip (Nat.succ.inj h)]
    rfl
section
variable {K : PySem.W.Frag} {H H' : Hp}
theorem sameD_kinds {n m : Nat} {x y : V} {d e : PyData} (h : VD K H n x d) (g : VD K H m y e) (no : (isT d && isT e) = false) : sameD d e = ((isB d == isB e) && PyData.eqv d e) := by
  cases h <;> cases g <;> first | rfl | (simp [isT] at no; done) | (simp [sameD, PyData.eqv, isB])
theorem sameD_num {n m : Nat} {x y : V} {d e : PyData} (h : VD K H n x d) (g : VD K H m y e) (no : isT e = false) (nm : isN e = true) : sameD d e = (isN d && ((isB d == isB e) && PyData.eqv d e)) := by
  cases h <;> cases g <;> first | rfl | (simp [isT] at no; done) | (simp [isN] at nm; done) | (simp [sameD, PyData.eqv, isB, isN])
theorem sameD_oth {n m : Nat} {x y : V} {d e : PyData} (h : VD K H n x d) (g : VD K H m y e) (no : isT e = false) (nm : isN e = false) : sameD d e = (!(isN d || isT d) && PyData.eqv d e) := by
  cases h <;> cases g <;> first | rfl | (simp [isT] at no; done) | (simp [isN] at nm; done) | (simp [sameD, PyData.eqv, isN, isT])
/-- what isinstance says of a value -/
theorem VD.kinds {n : Nat} {x : V} {d : PyData} (h : VD K H n x d) : ∃ T, (∀ H', Same H H' → TyX K H' x (.type T)) ∧ kitB T "list" = some false ∧ kitB T "tuple" = some (isT d) ∧ kitB T "bool" = some (isB d) ∧ kitB T "int" = some (isN d) ∧
    kitAB T ["list", "tuple"] = some (isT d) ∧ kitAB T ["bool", "int"] = some (isN d) ∧ kitAB T ["bool", "int", "list", "tuple"] = some (isN d || isT d) := by
  cases h with
  | non => exact ⟨"NoneType", fun _ _ => .base .non, (by decide +kernel : kitB "NoneType" "list" = some false), (by decide +kernel : kitB "NoneType" "tuple" = some false), (by decide +kernel : kitB "NoneType" "bool" = some false), (by decide +kernel : kitB "NoneType" "int" = some false), (by decide +kernel : kitAB "NoneType" ["list", "tuple"] = some false), (by decide +kernel : kitAB "NoneType" ["bool", "int"] = some false), (by decide +kernel : kitAB "NoneType" ["bool", "int", "list", "tuple"] = some false)⟩
  | bl _ b => exact ⟨"bool", fun _ _ => .base (.bl b), (by decide +kernel : kitB "bool" "list" = some false), (by decide +kernel : kitB "bool" "tuple" = some false), (by decide +kernel : kitB "bool" "bool" = some true), (by decide +kernel : kitB "bool" "int" = some true), (by decide +kernel : kitAB "bool" ["list", "tuple"] = some false), (by decide +kernel : kitAB "bool" ["bool", "int"] = some true), (by decide +kernel : kitAB "bool" ["bool", "int", "list", "tuple"] = some true)⟩
  | int _ i => exact ⟨"int", fun _ _ => .base (.int i), (by decide +kernel : kitB "int" "list" = some false), (by decide +kernel : kitB "int" "tuple" = some false), (by decide +kernel : kitB "int" "bool" = some false), (by decide +kernel : kitB "int" "int" = some true), (by decide +kernel : kitAB "int" ["list", "tuple"] = some false), (by decide +kernel : kitAB "int" ["bool", "int"] = some true), (by decide +kernel : kitAB "int" ["bool", "int", "list", "tuple"] = some true)⟩
  | str _ s => exact ⟨"str", fun _ _ => .base (.str s), (by decide +kernel : kitB "str" "list" = some false), (by decide +kernel : kitB "str" "tuple" = some false), (by decide +kernel : kitB "str" "bool" = some false), (by decide +kernel : kitB "str" "int" = some false), (by decide +kernel : kitAB "str" ["list", "tuple"] = some false), (by decide +kernel : kitAB "str" ["bool", "int"] = some false), (by decide +kernel : kitAB "str" ["bool", "int", "list", "tuple"] = some false)⟩
  | tup h => exact ⟨"tuple", fun _ e => tyx_tup (seqT_same e h), (by decide +kernel : kitB "tuple" "list" = some false), (by decide +kernel : kitB "tuple" "tuple" = some true), (by decide +kernel : kitB "tuple" "bool" = some false), (by decide +kernel : kitB "tuple" "int" = some false), (by decide +kernel : kitAB "tuple" ["list", "tuple"] = some true), (by decide +kernel : kitAB "tuple" ["bool", "int"] = some false), (by decide +kernel : kitAB "tuple" ["bool", "int", "list", "tuple"] = some true)⟩
/-- whether two values are the same -/
def RD (K : PySem.W.Frag) (n : Nat) (H : Hp) (x y : V) (b : Bool) : Prop := ∃ d e, VD K H n x d ∧ VD K H n y e ∧ b = sameD d e
theorem RD.tk {n : Nat} {x y : V} {b : Bool} (e : TK K H H') (h : RD K n H x y b) : RD K n H' x y b := by
  obtain ⟨d, e', h1, h2, h3⟩ := h
  exact ⟨d, e', h1.tk e, h2.tk e, h3⟩
theorem RD.keeps {n : Nat} : Keeps (RD K n) := fun _ _ _ _ _ e h => h.tk (.of e)
end
end TW
namespace TW
open PySem PySem.Spec PyProof.Rows L2
theorem zip_all {K : PySem.W.Frag} {H : Hp} {n : Nat} {xs ys : List V} {ds es : List PyData} (h1 : ∀ (i : Nat) (x : V) (d : PyData), xs[i]? = some x → ds[i]? = some d → VD K H n x d) (h2 : ∀ (i : Nat) (x : V) (d : PyData), ys[i]? = some x → es[i]? = some d → VD K H n x d) (l1 : xs.length = ds.length) (l2 : ys.length = es.length) {i : Nat} {x y : V} (hx : xs[i]? = some x) (hy : ys[i]? = some y) :
    ∃ d e, VD K H n x d ∧ VD K H n y e ∧ ((ds.zip es).map fun p => sameD p.1 p.2)[i]? = some (sameD d e) := by
  obtain ⟨d, hd⟩ : ∃ d, ds[i]? = some d := ⟨_, List.getElem?_eq_getElem (l1 ▸ (List.getElem?_eq_some_iff.mp hx).1)⟩
  obtain ⟨e, he⟩ : ∃ e, es[i]? = some e := ⟨_, List.getElem?_eq_getElem (l2 ▸ (List.getElem?_eq_some_iff.mp hy).1)⟩
  refine ⟨d, e, h1 i x d hx hd, h2 i y e hy he, ?_⟩
  rw [List.getElem?_map, (List.getElem?_zip_eq_some (z := (d, e))).mpr ⟨hd, he⟩]
  rfl
theorem sameD_nt {d : PyData} {es : List PyData} (h : isT d = false) : sameD d (.tuple es) = false := by
  cases d <;> first | rfl | (simp [isT] at h; done)
section
variable {P : Program} {w : World} {K : PySem.W.Frag} {mg : Str → Option Value} {base : Heap}
theorem smd_body {f : Addr} {fd : FuncData} {n k : Nat} {spR : Sp} (hn : n ≤ 60) (F : Fun K "same" "same" sSm f fd) (B : Blt mg) (hm : mg "same" = some (.ref f)) (bS : Binds K fd ["one", "other"] [])
    (R : FnOk P w K mg base CX0 k f fd ["one", "other"] spR) (hR : ∀ m, n = m + 1 → spR = spSm (RD K m)) : FnOk P w K mg base CX0 (k + 1) f fd ["one", "other"] (spSm (RD K n)) := by
  refine F.ok scSm (fun vs H Q E h => ?_) (fun cdv A outer s H vs Q E hr h => ?_)
  · obtain ⟨x, y, b, rfl, _⟩ := h
    rfl
  · obtain ⟨x, y, b, rfl, ⟨d, e, hx, hy, rfl⟩, kQ⟩ := h
    have hu := hu_of hr
    refine ⟨_, pss_cons (ps_if (PW.pt (pw_and (pt_val (pe_callB call_isi (by rfl) B.isi (by decide +kernel) (pa_cons (pv 0) (pa_cons (pe_bltn (v := .ty "tuple") (by rfl) B.tuple (by decide +kernel) rfl) pa_nil))))
          (pw_and1 (pt_val (pe_callB call_isi (by rfl) B.isi (by decide +kernel) (pa_cons (pv 1) (pa_cons (pe_bltn (v := .ty "tuple") (by rfl) B.tuple (by decide +kernel) rfl) pa_nil)))))))
        (pss_cons (ps_if (pt_cmpR op_ne (pe_callB call_len_seq (by rfl) B.len PySem.boot_len (pa_cons (pv 0) pa_nil)) (pe_callB call_len_seq (by rfl) B.len PySem.boot_len (pa_cons (pv 1) pa_nil)) (nomark _)) (pss_one (ps_ret pe_bl)) pss_nil)
        (pss_one (ps_ret (pe_callB (cr_all rfl) (by rfl) B.all (by decide +kernel) (pa_cons
          (pe_lc (own := [("inner", 2), ("partner", 3)]) rfl scSm.nd (RZ.pi_zipA (by rfl) B.zip (pa_cons (pv 0) (pa_cons (pv 1) pa_nil))) (blkOk_by (N := ["one", "other", "inner", "partner"]) (sc := defScope sSm) (by decide +kernel))
            (fun _ _ _ _ _ => pg_tupC (n := 2) rfl (pgs_cons (pg_name (i := 2) scSm.nd rfl (Or.inl rfl)) (pgs_cons (pg_name (i := 3) scSm.nd rfl (Or.inl rfl)) pgs_nil))) (fun _ _ _ _ _ => pts_nil)
            (fun _ _ _ _ _ => pe_call R hr rfl hm F.kp bS .nil pass0 (pa_cons (pv 2) (pa_cons (pv 3) pa_nil)))) pa_nil))))) pss_nil)
      (pss_one (ps_ret (pe_and (pe_cmpR op_eq (pe_callB call_isi (by rfl) B.isi (by decide +kernel) (pa_cons (pv 0) (pa_cons (pe_bltn (v := .ty "bool") (by rfl) B.bool (by decide +kernel) rfl) pa_nil))) (pe_callB call_isi (by rfl) B.isi (by decide +kernel) (pa_cons (pv 1) (pa_cons (pe_bltn (v := .ty "bool") (by rfl) B.bool (by decide +kernel) rfl) pa_nil))) (nomark _))
        (pe_one (pe_cmpR (op_eqD hr.units) (pv 0) (pv 1) (nomark _)))))), ?_⟩
    by_cases c : (isT d && isT e) = true
    · cases hx with
      | @tup m a xs ds ha hl few ex =>
        cases hy with
        | @tup _ cc ys es hc hl2 few2 ey =>
          have e := hR m rfl
          subst e
          refine ⟨_, rfl, _, _, _, _, _, rfl, .ty _, tyx_tup ha, kit_ty (r := true) (by decide +kernel), _, rfl, ?_⟩
          refine iteT ?_
          refine ⟨_, rfl, _, _, _, _, _, rfl, .ty _, tyx_tup hc, kit_ty (r := true) (by decide +kernel), _, rfl, ?_⟩
          refine iteT ?_
          refine ⟨_, rfl, a, _, rfl, .inr ha, _, rfl, cc, _, rfl, .inr hc, rfl, _, rfl, ?_⟩
          have u : sameD (.tuple ds) (.tuple es) = sameAll ds es := by
            unfold sameD
            rfl
          rw [u] at kQ
          by_cases eq : xs.length = ys.length
          · rw [decide_eq_true (by rw [eq])]
            refine iteF ?_
            have lz : ((ds.zip es).map fun p => sameD p.1 p.2).length = xs.length := by
              rw [List.length_map, List.length_zip]
              omega
            rw [sameAll_zip (by omega)] at kQ
            refine ⟨_, rfl, _, rfl, a, cc, xs, ys, rfl, .inr ⟨ha, hc, fun D hD => ?_⟩⟩
            refine lc_it (walk_zipT rfl) (fun i H' => Same H H' ∧ H' D = some (.lst ((((ds.zip es).map fun p => sameD p.1 p.2).take i).map V.bl))) ⟨same_new hD, upd_same⟩ (fun i H' _ z => ⟨seqT_same z.1 ha, seqT_same z.1 hc⟩) ?_ ?_
            · rintro i v H' H'' hi ⟨z, hd⟩ ⟨T', x, y, rfl, hT', rfl, hx, hy⟩
              obtain ⟨d, e, vd, ve, eb⟩ := zip_all ex ey hl hl2 hx hy
              refine ⟨T', [x, y], rfl, SqT.of upd_same, rfl, x, [y], rfl, y, [], rfl, rfl, rfl, ?_⟩
              unfold tYes
              dsimp only
              refine iteT ?_
              have tk := TK.of (K := K) (z.trans (same_new (o := .tup [x, y]) hT'))
              refine ⟨_, rfl, _, rfl, x, y, _, rfl, ⟨d, e, vd.tk tk, ve.tk tk, rfl⟩, fun H4 s4 => ?_⟩
              refine ⟨_, s4 _ _ (same_new hT' _ _ hd), ?_, fun c o e => ?_, ?_⟩
              · rw [List.length_map, List.length_take]
                exact Nat.lt_of_lt_of_le (Nat.lt_succ_of_le (Nat.le_trans (Nat.min_le_right _ _) (lz ▸ few))) (small_sz (by decide))
              · rw [upd_ne (ne_of_none e hD)]
                exact s4 c o (same_new hT' c o (z c o e))
              · rw [upd_same, take_one eb, List.map_append]
                rfl
            · rintro H' ⟨z, hd⟩
              rw [show min xs.length ys.length = ((ds.zip es).map fun p => sameD p.1 p.2).length by omega, List.take_length] at hd
              exact ⟨D, _, rfl, SqL.of hd, kQ _ z⟩
          · rw [decide_eq_false (by intro z; apply eq; have := V.int.inj z; omega)]
            rw [sameAll_len (by omega)] at kQ
            exact iteT (kQ _ (Same.refl _))
        | _ => exact absurd c (by simp [isT])
      | _ => exact absurd c (by simp [isT])
    · have c := Bool.eq_false_iff.mpr c
      rw [sameD_kinds hx hy c] at kQ
      obtain ⟨T, tx, _, k1, b1, _⟩ := hx.kinds
      obtain ⟨U, ty, _, k2, b2, _⟩ := hy.kinds
      have fin := kQ _ (Same.refl _)
      have last : ∀ {σ : L2.St}, True := fun {_} => trivial
      refine ⟨_, rfl, _, _, _, _, _, rfl, .ty _, tx _ (Same.refl _), kit_ty k1, _, rfl, ?_⟩
      have dx := hx.dp
      have dy := hy.dp
      have sx := hx.shaped (by omega)
      have sy := hy.shaped (by omega)
      generalize isT d = t1 at *
      generalize isT e = t2 at *
      cases t1 with
      | false =>
        refine iteF (iteF ?_)
        refine ⟨_, rfl, _, _, _, _, _, rfl, .ty _, tx _ (Same.refl _), kit_ty b1, _, rfl, _, _, _, _, _, rfl, .ty _, ty _ (Same.refl _), kit_ty b2, rfl, _, rfl, ?_⟩
        by_cases q : isB d = isB e
        · refine iteD (by rw [q]) ?_
          have e0 : (isB d == isB e) = true := by simpa using q
          rw [e0, Bool.true_and] at fin
          exact ⟨_, rfl, _, rfl, d, e, dx, dy, sx, sy, fin⟩
        · rw [decide_eq_false (fun z => q (V.bl.inj z))]
          have e0 : (isB d == isB e) = false := by simpa using q
          rw [e0, Bool.false_and] at fin
          exact iteF fin
      | true =>
        refine iteT ?_
        have e2 : t2 = false := c
        subst e2
        refine ⟨_, rfl, _, _, _, _, _, rfl, .ty _, ty _ (Same.refl _), kit_ty k2, _, rfl, ?_⟩
        refine iteF ?_
        refine ⟨_, rfl, _, _, _, _, _, rfl, .ty _, tx _ (Same.refl _), kit_ty b1, _, rfl, _, _, _, _, _, rfl, .ty _, ty _ (Same.refl _), kit_ty b2, rfl, _, rfl, ?_⟩
        by_cases q : isB d = isB e
        · refine iteD (by rw [q]) ?_
          have e0 : (isB d == isB e) = true := by simpa using q
          rw [e0, Bool.true_and] at fin
          exact ⟨_, rfl, _, rfl, d, e, dx, dy, sx, sy, fin⟩
        · rw [decide_eq_false (fun z => q (V.bl.inj z))]
          have e0 : (isB d == isB e) = false := by simpa using q
          rw [e0, Bool.false_and] at fin
          exact iteF fin
theorem ok_sameD {f : Addr} {fd : FuncData} (F : Fun K "same" "same" sSm f fd) (B : Blt mg) (hm : mg "same" = some (.ref f)) (bS : Binds K fd ["one", "other"] []) : ∀ n, n ≤ 60 → FnOk P w K mg base CX0 (n + 1) f fd ["one", "other"] (spSm (RD K n))
  | 0, _ => smd_body (spR := fun _ _ _ _ => False) (Nat.zero_le _) F B hm bS fn_never (fun m e => nomatch e)
  | n + 1, h => smd_body h F B hm bS (ok_sameD F B hm bS n (by omega)) (fun m e => by cases e; rfl)
/-- the law's own same, of two values -/
theorem lsd_body {f : Addr} {fd : FuncData} {n k : Nat} {spR : Sp} (hn : n ≤ 60) (F : Fun K "_law_same" "_law_same" sSame f fd) (B : Blt mg) (hm : mg "_law_same" = some (.ref f)) (bS : Binds K fd ["_law_found", "_law_due"] [])
    (R : FnOk P w K mg base CX0 k f fd ["_law_found", "_law_due"] spR) (hR : ∀ m, n = m + 1 → spR = spSm (RD K m)) : FnOk P w K mg base CX0 (k + 1) f fd ["_law_found", "_law_due"] (spSm (RD K n)) := by
  refine F.ok scSame (fun vs H Q E h => ?_) (fun cdv A outer s H vs Q E hr h => ?_)
  · obtain ⟨x, y, b, rfl, _⟩ := h
    rfl
  · obtain ⟨x, y, b, rfl, ⟨d, e, hx, hy, rfl⟩, kQ⟩ := h
    have hu := hu_of hr
    refine ⟨_, pss_cons (ps_if (pt_val (pe_callB call_isiT (by rfl) B.isi (by decide +kernel) (pa_cons (pv 1) (pa_cons (pe_tup (pa_cons (pe_bltn (v := .ty "list") (by rfl) B.list (by decide +kernel) rfl) (pa_cons (pe_bltn (v := .ty "tuple") (by rfl) B.tuple (by decide +kernel) rfl) pa_nil))) pa_nil))))
        (pss_cons (ps_if (PW.pt (pw_or (pt_cmpR op_ne (pe_callB call_isi (by rfl) B.isi (by decide +kernel) (pa_cons (pv 0) (pa_cons (pe_bltn (v := .ty "list") (by rfl) B.list (by decide +kernel) rfl) pa_nil))) (pe_callB call_isi (by rfl) B.isi (by decide +kernel) (pa_cons (pv 1) (pa_cons (pe_bltn (v := .ty "list") (by rfl) B.list (by decide +kernel) rfl) pa_nil))) (nomark _))
            (pw_or1 (pt_cmpR op_ne (pe_callB call_isi (by rfl) B.isi (by decide +kernel) (pa_cons (pv 0) (pa_cons (pe_bltn (v := .ty "tuple") (by rfl) B.tuple (by decide +kernel) rfl) pa_nil))) (pe_callB call_isi (by rfl) B.isi (by decide +kernel) (pa_cons (pv 1) (pa_cons (pe_bltn (v := .ty "tuple") (by rfl) B.tuple (by decide +kernel) rfl) pa_nil))) (nomark _)))))
          (pss_one (ps_ret pe_bl)) pss_nil)
        (pss_one (ps_ret (pe_and (pe_cmpR op_eq (pe_callB call_len_seq (by rfl) B.len PySem.boot_len (pa_cons (pv 0) pa_nil)) (pe_callB call_len_seq (by rfl) B.len PySem.boot_len (pa_cons (pv 1) pa_nil)) (nomark _))
          (pe_one (pe_callB (cr_all rfl) (by rfl) B.all (by decide +kernel) (pa_cons
            (pe_lc (own := [("_law_left", 2), ("_law_right", 3)]) rfl scSame.nd (RZ.pi_zipA (by rfl) B.zip (pa_cons (pv 0) (pa_cons (pv 1) pa_nil))) (blkOk_by (N := ["_law_found", "_law_due", "_law_left", "_law_right"]) (sc := defScope sSame) (by decide +kernel))
              (fun _ _ _ _ _ => pg_tupB (n := 2) rfl (pgs_cons (pg_name (i := 2) scSame.nd rfl (Or.inl rfl)) (pgs_cons (pg_name (i := 3) scSame.nd rfl (Or.inl rfl)) pgs_nil))) (fun _ _ _ _ _ => pts_nil)
              (fun _ _ _ _ _ => pe_call R hr rfl hm F.kp bS .nil pass0 (pa_cons (pv 2) (pa_cons (pv 3) pa_nil)))) pa_nil)))))))
        pss_nil)
      (pss_cons (ps_if (pt_val (pe_callB call_isiT (by rfl) B.isi (by decide +kernel) (pa_cons (pv 1) (pa_cons (pe_tup (pa_cons (pe_bltn (v := .ty "bool") (by rfl) B.bool (by decide +kernel) rfl) (pa_cons (pe_bltn (v := .ty "int") (by rfl) B.int (by decide +kernel) rfl) pa_nil))) pa_nil))))
        (pss_one (ps_ret (pe_and (pe_callB call_isi (by rfl) B.isi (by decide +kernel) (pa_cons (pv 0) (pa_cons (pe_bltn (v := .ty "int") (by rfl) B.int (by decide +kernel) rfl) pa_nil)))
          (pe_and (pe_cmpR op_eq (pe_callB call_isi (by rfl) B.isi (by decide +kernel) (pa_cons (pv 0) (pa_cons (pe_bltn (v := .ty "bool") (by rfl) B.bool (by decide +kernel) rfl) pa_nil))) (pe_callB call_isi (by rfl) B.isi (by decide +kernel) (pa_cons (pv 1) (pa_cons (pe_bltn (v := .ty "bool") (by rfl) B.bool (by decide +kernel) rfl) pa_nil))) (nomark _))
            (pe_one (pe_cmpR (op_eqD hr.units) (pv 0) (pv 1) (nomark _))))))) pss_nil)
      (pss_one (ps_ret (pe_and (pe_not (pe_callB call_isiT (by rfl) B.isi (by decide +kernel) (pa_cons (pv 0) (pa_cons (pe_tup (pa_cons (pe_bltn (v := .ty "bool") (by rfl) B.bool (by decide +kernel) rfl) (pa_cons (pe_bltn (v := .ty "int") (by rfl) B.int (by decide +kernel) rfl) (pa_cons (pe_bltn (v := .ty "list") (by rfl) B.list (by decide +kernel) rfl) (pa_cons (pe_bltn (v := .ty "tuple") (by rfl) B.tuple (by decide +kernel) rfl) pa_nil))))) pa_nil))))
        (pe_one (pe_cmpR (op_eqD hr.units) (pv 0) (pv 1) (nomark _))))))), ?_⟩
    obtain ⟨T, tx, l1, k1, b1, i1, _, _, f1⟩ := hx.kinds
    obtain ⟨U, ty, l2, k2, b2, i2, q2, n2, _⟩ := hy.kinds
    refine ⟨_, rfl, two_sz, fun p hp => ?_⟩
    have s1 : Same H (upd H p (.tup [.ty "list", .ty "tuple"])) := same_new hp
    refine ⟨_, p, _, _, [.type "list", .type "tuple"], _, rfl, upd_same, .cons (.ty _) (.cons (.ty _) .nil), ty _ s1, kitA (cs := ["list", "tuple"]) q2, _, rfl, ?_⟩
    generalize upd H p (.tup [.ty "list", .ty "tuple"]) = H1 at *
    by_cases ct : isT e = true
    · rw [ct]
      rw [ct] at k2
      refine iteT ?_
      refine ⟨_, rfl, _, _, _, _, _, rfl, .ty _, tx _ s1, kit_ty l1, _, rfl, _, _, _, _, _, rfl, .ty _, ty _ s1, kit_ty l2, rfl, _, rfl, ?_⟩
      refine iteNS rfl ?_
      refine ⟨_, rfl, _, _, _, _, _, rfl, .ty _, tx _ s1, kit_ty k1, _, rfl, _, _, _, _, _, rfl, .ty _, ty _ s1, kit_ty k2, rfl, _, rfl, ?_⟩
      cases hy with
      | @tup m cc ys es hc hl2 few2 ey =>
        by_cases cd : isT d = true
        · cases hx with
          | @tup _ a xs ds ha hl few ex =>
            have e := hR m rfl
            subst e
            refine iteNS rfl ?_
            refine ⟨_, rfl, a, _, rfl, .inr (seqT_same s1 ha), _, rfl, cc, _, rfl, .inr (seqT_same s1 hc), rfl, _, rfl, ?_⟩
            have u : sameD (.tuple ds) (.tuple es) = sameAll ds es := by
              unfold sameD
              rfl
            rw [u] at kQ
            by_cases eq : xs.length = ys.length
            · refine iteD (by rw [eq]) ?_
              have lz : ((ds.zip es).map fun p => sameD p.1 p.2).length = xs.length := by
                rw [List.length_map, List.length_zip]
                omega
              rw [sameAll_zip (by omega)] at kQ
              refine ⟨_, rfl, _, rfl, a, cc, xs, ys, rfl, .inr ⟨seqT_same s1 ha, seqT_same s1 hc, fun D hD => ?_⟩⟩
              refine lc_it (walk_zipT rfl) (fun i H' => Same H1 H' ∧ H' D = some (.lst ((((ds.zip es).map fun p => sameD p.1 p.2).take i).map V.bl))) ⟨same_new hD, upd_same⟩ (fun i H' _ z => ⟨seqT_same z.1 (seqT_same s1 ha), seqT_same z.1 (seqT_same s1 hc)⟩) ?_ ?_
              · rintro i v H' H'' hi ⟨z, hd⟩ ⟨T', x, y, rfl, hT', rfl, hx, hy⟩
                obtain ⟨d, e, vd, ve, eb⟩ := zip_all ex ey hl hl2 hx hy
                refine ⟨T', [x, y], rfl, SqT.of upd_same, rfl, x, [y], rfl, y, [], rfl, rfl, rfl, ?_⟩
                unfold tYes
                dsimp only
                refine iteT ?_
                have tk := TK.of (K := K) (s1.trans (z.trans (same_new (o := .tup [x, y]) hT')))
                refine ⟨_, rfl, _, rfl, x, y, _, rfl, ⟨d, e, vd.tk tk, ve.tk tk, rfl⟩, fun H4 s4 => ?_⟩
                refine ⟨_, s4 _ _ (same_new hT' _ _ hd), ?_, fun c o e => ?_, ?_⟩
                · rw [List.length_map, List.length_take]
                  exact Nat.lt_of_lt_of_le (Nat.lt_succ_of_le (Nat.le_trans (Nat.min_le_right _ _) (lz ▸ few))) (small_sz (by decide))
                · rw [upd_ne (ne_of_none e hD)]
                  exact s4 c o (same_new hT' c o (z c o e))
                · rw [upd_same, take_one eb, List.map_append]
                  rfl
              · rintro H' ⟨z, hd⟩
                rw [show min xs.length ys.length = ((ds.zip es).map fun p => sameD p.1 p.2).length by omega, List.take_length] at hd
                exact ⟨D, _, rfl, SqL.of hd, kQ _ (s1.trans z)⟩
            · rw [decide_eq_false (by intro z; apply eq; have := V.int.inj z; omega)]
              rw [sameAll_len (by omega)] at kQ
              exact iteF (kQ _ s1)
          | _ => exact absurd cd (by simp [isT])
        · have cd := Bool.eq_false_iff.mpr cd
          rw [sameD_nt cd] at kQ
          rw [cd]
          rw [decide_eq_false (by decide)]
          exact iteT (kQ _ s1)
      | _ => exact absurd ct (by simp [isT])
    · have ct := Bool.eq_false_iff.mpr ct
      rw [ct] at q2
      rw [ct]
      refine iteF ?_
      refine ⟨_, rfl, two_sz, fun p2 hp2 => ?_⟩
      have s2 : Same H (upd H1 p2 (.tup [.ty "bool", .ty "int"])) := s1.trans (same_new hp2)
      refine ⟨_, p2, _, _, [.type "bool", .type "int"], _, rfl, upd_same, .cons (.ty _) (.cons (.ty _) .nil), ty _ s2, kitA (cs := ["bool", "int"]) n2, _, rfl, ?_⟩
      generalize upd H1 p2 (.tup [.ty "bool", .ty "int"]) = H2 at *
      have tk := TK.of (K := K) s2
      have dx := (hx.tk tk).dp
      have dy := (hy.tk tk).dp
      have sx := hx.shaped (by omega)
      have sy := hy.shaped (by omega)
      by_cases nm : isN e = true
      · rw [nm]
        refine iteT ?_
        rw [sameD_num hx hy ct nm] at kQ
        have fin := kQ _ s2
        refine ⟨_, rfl, _, _, _, _, _, rfl, .ty _, tx _ s2, kit_ty i1, _, rfl, ?_⟩
        by_cases q : isN d = true
        · rw [q, Bool.true_and] at fin
          rw [q]
          refine iteT ?_
          refine ⟨_, rfl, _, _, _, _, _, rfl, .ty _, tx _ s2, kit_ty b1, _, rfl, _, _, _, _, _, rfl, .ty _, ty _ s2, kit_ty b2, rfl, _, rfl, ?_⟩
          by_cases q : isB d = isB e
          · refine iteD (by rw [q]) ?_
            have e0 : (isB d == isB e) = true := by simpa using q
            rw [e0, Bool.true_and] at fin
            exact ⟨_, rfl, _, rfl, d, e, dx, dy, sx, sy, fin⟩
          · rw [decide_eq_false (fun z => q (V.bl.inj z))]
            have e0 : (isB d == isB e) = false := by simpa using q
            rw [e0, Bool.false_and] at fin
            exact iteF fin
        · have q := Bool.eq_false_iff.mpr q
          rw [q, Bool.false_and] at fin
          rw [q]
          exact iteF fin
      · have nm := Bool.eq_false_iff.mpr nm
        rw [nm]
        refine iteF ?_
        rw [sameD_oth hx hy ct nm] at kQ
        refine ⟨_, rfl, four_sz, fun p3 hp3 => ?_⟩
        have s3 := s2.trans (same_new (o := .tup [.ty "bool", .ty "int", .ty "list", .ty "tuple"]) hp3)
        refine ⟨_, p3, _, _, [.type "bool", .type "int", .type "list", .type "tuple"], _, rfl, upd_same, .cons (.ty _) (.cons (.ty _) (.cons (.ty _) (.cons (.ty _) .nil))), tx _ s3, kitA (cs := ["bool", "int", "list", "tuple"]) f1, _, rfl, _, rfl, ?_⟩
        have fin := kQ _ s3
        have tk3 := TK.of (K := K) s3
        have dx := (hx.tk tk3).dp
        have dy := (hy.tk tk3).dp
        generalize upd H2 p3 (.tup [.ty "bool", .ty "int", .ty "list", .ty "tuple"]) = H3 at *
        by_cases q : (isN d || isT d) = true
        · rw [q] at fin
          rw [q]
          exact iteF fin
        · have q := Bool.eq_false_iff.mpr q
          rw [q] at fin
          rw [q]
          exact iteT ⟨_, rfl, _, rfl, d, e, dx, dy, sx, sy, fin⟩
theorem ok_lsameD {f : Addr} {fd : FuncData} (F : Fun K "_law_same" "_law_same" sSame f fd) (B : Blt mg) (hm : mg "_law_same" = some (.ref f)) (bS : Binds K fd ["_law_found", "_law_due"] []) : ∀ n, n ≤ 60 → FnOk P w K mg base CX0 (n + 1) f fd ["_law_found", "_law_due"] (spSm (RD K n))
  | 0, _ => lsd_body (spR := fun _ _ _ _ => False) (Nat.zero_le _) F B hm bS fn_never (fun m e => nomatch e)
  | n + 1, h => lsd_body h F B hm bS (ok_lsameD F B hm bS n (by omega)) (fun m e => by cases e; rfl)
end
end TW
namespace TW
open PySem PySem.Spec PyProof.Rows L2
abbrev sLets : Stmt := top 74
abbrev sChanged : Stmt := top 75
abbrev sDoL : Stmt := top 76
/-- all but lists and instances stands -/
def DK (H H' : Hp) : Prop := ∀ b o, H b = some o → (∀ xs, o ≠ .lst xs) → (∀ c d fs, o ≠ .ins c d fs) → H' b = some o
theorem DK.of {H H' : Hp} (e : Same H H') : DK H H' := fun b o h _ _ => e b o h
theorem DK.trans {H H1 H2 : Hp} (a : DK H H1) (b : DK H1 H2) : DK H H2 := fun c o e n m => b c o (a c o e n m) n m
theorem DK.tk {K : PySem.W.Frag} {H H' : Hp} (e : DK H H') : TK K H H' := fun a xs q => by
  rcases q with (q | ⟨o, q⟩) | q
  · exact .inl (.inl (e _ _ q (fun _ z => (nomatch z)) fun _ _ _ z => (nomatch z)))
  · exact .inl (.inr ⟨o, e _ _ q (fun _ z => (nomatch z)) fun _ _ _ z => (nomatch z)⟩)
  · exact .inr q
/-- a value of the plan -/
def PV (K : PySem.W.Frag) (H0 : Hp) (v : V) : Prop := ∃ d, VD K H0 3 v d
theorem PV.tk {K : PySem.W.Frag} {H0 H : Hp} {v : V} (t : TK K H0 H) (h : PV K H0 v) : PV K H v := by
  obtain ⟨d, q⟩ := h
  exact ⟨d, q.tk t⟩
/-- belts: their names, and what lies on each -/
structure RowsD (K : PySem.W.Frag) (H : Hp) (kvs : List (Key × V)) (bk : List Str) (bc : Str → List V) : Prop where
  keys : kvs.map (·.1) = bk.map Sum.inr
  at_ : ∀ nm ∈ bk, ∃ a, valV kvs (Sum.inr nm) = some (.ref a) ∧ SqT K H a (bc nm)
theorem RowsD.tk {K : PySem.W.Frag} {H H' : Hp} {kvs : List (Key × V)} {bk : List Str} {bc : Str → List V} (t : TK K H H') (h : RowsD K H kvs bk bc) : RowsD K H' kvs bk bc :=
  ⟨h.keys, fun nm m => by
    obtain ⟨a, e1, e2⟩ := h.at_ nm m
    exact ⟨a, e1, t _ _ e2⟩⟩
def setB (bc : Str → List V) (nm : Str) (xs : List V) : Str → List V := fun s => if s = nm then xs else bc s
theorem keys_put {kvs : List (Key × V)} {k : Key} {v : V} (h : k ∈ kvs.map (·.1)) : (putK kvs k v).map (·.1) = kvs.map (·.1) := by
  unfold putK
  obtain ⟨p, hp, e⟩ := List.mem_map.mp h
  rw [if_pos (List.any_eq_true.mpr ⟨p, hp, decide_eq_true e⟩), List.map_map]
  refine List.map_congr_left fun q _ => ?_
  show (if q.1 = k then (q.1, v) else q).1 = q.1
  split <;> rfl
theorem len_put {kvs : List (Key × V)} {k : Key} {v : V} (h : k ∈ kvs.map (·.1)) : (putK kvs k v).length = kvs.length := by
  have z := congrArg List.length (keys_put (v := v) h)
  rw [List.length_map, List.length_map] at z
  exact z
theorem RowsD.mem {K : PySem.W.Frag} {H : Hp} {kvs : List (Key × V)} {bk : List Str} {bc : Str → List V} (h : RowsD K H kvs bk bc) {nm : Str} (m : nm ∈ bk) : (Sum.inr nm : Key) ∈ kvs.map (·.1) := by
  rw [h.keys]
  exact List.mem_map.mpr ⟨nm, m, rfl⟩
theorem RowsD.len {K : PySem.W.Frag} {H : Hp} {kvs : List (Key × V)} {bk : List Str} {bc : Str → List V} (h : RowsD K H kvs bk bc) : kvs.length = bk.length := by
  have z := congrArg List.length h.keys
  rw [List.length_map, List.length_map] at z
  exact z
theorem RowsD.put {K : PySem.W.Frag} {H : Hp} {kvs : List (Key × V)} {bk : List Str} {bc : Str → List V} {nm : Str} {a : Addr} {xs : List V} (h : RowsD K H kvs bk bc) (m : nm ∈ bk) (ha : SqT K H a xs) : RowsD K H (putK kvs (Sum.inr nm) (.ref a)) bk (setB bc nm xs) := by
  refine ⟨(keys_put (h.mem m)).trans h.keys, fun s ms => ?_⟩
  rw [valV_put]
  unfold setB
  by_cases c : s = nm
  · rw [if_pos (by rw [c]), if_pos c]
    exact ⟨a, rfl, ha⟩
  · rw [if_neg (fun z => c (Sum.inr.inj z)), if_neg c]
    exact h.at_ s ms
/-- the law's things: belts alone -/
structure Sto where
  bk : List Str
  bc : Str → List V
  sizes : List (Key × V)
structure StoOk (K : PySem.W.Frag) (H : Hp) (S : Sto) : Prop where
  size : ∀ nm ∈ S.bk, ∃ z, valV S.sizes (Sum.inr nm) = some z ∧ (z = .non ∨ ∃ i, z = .int i)
  vals : ∀ nm ∈ S.bk, ∀ v ∈ S.bc nm, PV K H v
  len : ∀ nm ∈ S.bk, (S.bc nm).length ≤ 900
  few : S.bk.length ≤ 60
theorem StoOk.tk {K : PySem.W.Frag} {H H' : Hp} {S : Sto} (t : TK K H H') (h : StoOk K H S) : StoOk K H' S := ⟨h.size, fun nm m v hv => (h.vals nm m v hv).tk t, h.len, h.few⟩
structure StoreAt (K : PySem.W.Frag) (H : Hp) (st : Addr) (S : Sto) : Prop where
  ex : ∃ b h r z rk, SqT K H st [.ref b, .ref h, .ref r, .ref z] ∧ H b = some (.dK []) ∧ H h = some (.dK []) ∧ H r = some (.dK rk) ∧ RowsD K H rk S.bk S.bc ∧ H z = some (.dK S.sizes)
theorem StoreAt.dk {K : PySem.W.Frag} {H H' : Hp} {st : Addr} {S : Sto} (e : DK H H') (h : StoreAt K H st S) : StoreAt K H' st S := by
  obtain ⟨b, h', r, z, rk, h1, h2, h3, h4, h5, h6⟩ := h.ex
  exact ⟨b, h', r, z, rk, e.tk _ _ h1, e _ _ h2 (fun _ z => (nomatch z)) fun _ _ _ z => (nomatch z), e _ _ h3 (fun _ z => (nomatch z)) fun _ _ _ z => (nomatch z), e _ _ h4 (fun _ z => (nomatch z)) fun _ _ _ z => (nomatch z), h5.tk e.tk, e _ _ h6 (fun _ z => (nomatch z)) fun _ _ _ z => (nomatch z)⟩
theorem StoreAt.same {K : PySem.W.Frag} {H H' : Hp} {st : Addr} {S : Sto} (e : Same H H') (h : StoreAt K H st S) : StoreAt K H' st S := h.dk (.of e)
/-- whether a belt has room -/
def room (S : Sto) (nm : Str) : Bool := match valV S.sizes (Sum.inr nm) with
  | some (.int i) => decide (((S.bc nm).length : Int) < i)
  | _ => true
/-- whether a wish about a belt need not wait -/
def letsM (S : Sto) (kind nm : Str) : Bool := if kind = ("lay" : Str) then room S nm else !(S.bc nm).isEmpty
def spLets (K : PySem.W.Frag) : Sp := fun vs H Q _ => ∃ (st wt : Addr) (S : Sto) (kind name : Str) (args : List V), vs = [.ref st, .ref wt] ∧ StoreAt K H st S ∧ StoOk K H S ∧ SqT K H wt (.str kind :: .str name :: args) ∧ CellKind kind args ∧ name ∈ S.bk ∧ ∀ H', Same H H' → Q (.bl (letsM S kind name)) H'
def spChanged : Sp := fun vs H Q _ => ∃ (d : Addr) (c : List (Key × V)) (nm : Str) (v : V), vs = [.ref d, .str nm, v] ∧ H d = some (.dK c) ∧ c.length ≤ 1000 ∧ ∀ p H', Same H H' → H' p = some (.dK (putK c (Sum.inr nm) v)) → Q (.ref p) H'
/-- what a wish about a belt answers and leaves -/
inductive DoM (S : Sto) (name : Str) : Str → List V → V → Sto → Prop
  | lay {x : V} : DoM S name "lay" [x] .non { S with bc := setB S.bc name (S.bc name ++ [x]) }
  | fetch {x : V} {r : List V} (h : S.bc name = x :: r) : DoM S name "fetch" [] x { S with bc := setB S.bc name r }
def spDoL (K : PySem.W.Frag) : Sp := fun vs H Q _ => ∃ (st wt : Addr) (k : V) (S S' : Sto) (kind name : Str) (args : List V) (a : V), vs = [.ref st, k, .ref wt] ∧ StoreAt K H st S ∧ StoOk K H S ∧ SqT K H wt (.str kind :: .str name :: args) ∧ name ∈ S.bk ∧ DoM S name kind args a S' ∧
  ∀ t s2 H', Same H H' → SqT K H' t [a, .ref s2] → StoreAt K H' s2 S' → Q (.ref t) H'
/-- statements that are not come to -/
theorem pss_rest {X : Cx} {l : List Stmt} : PSs X l (fun _ _ _ => False) := ⟨fun _ _ _ _ _ _ h => h.elim⟩
/-- a belt's tuple, as data -/
theorem pv_tup {K : PySem.W.Frag} {H : Hp} {a : Addr} : ∀ {xs : List V}, SqT K H a xs → (∀ v ∈ xs, PV K H v) → xs.length ≤ 1000 → ∃ ds, VD K H 4 (.ref a) (.tuple ds) ∧ xs.length = ds.length := fun {xs} ha hv few => by
  have all : ∀ xs : List V, (∀ v ∈ xs, PV K H v) → ∃ ds : List PyData, xs.length = ds.length ∧ ∀ (i : Nat) (x : V) (d : PyData), xs[i]? = some x → ds[i]? = some d → VD K H 3 x d := fun xs => by
    induction xs with
    | nil => exact fun _ => ⟨[], rfl, fun i x d h => (nomatch h)⟩
    | cons x l ih =>
      intro hv
      obtain ⟨d, hd⟩ := hv x (List.mem_cons_self ..)
      obtain ⟨ds, h1, h2⟩ := ih fun v m => hv v (List.mem_cons_of_mem _ m)
      refine ⟨d :: ds, congrArg (· + 1) h1, fun i y e a b => ?_⟩
      match i, a, b with
      | 0, a, b =>
        cases a
        cases b
        exact hd
      | i + 1, a, b => exact h2 i y e a b
  obtain ⟨ds, h1, h2⟩ := all xs hv
  exact ⟨ds, .tup ha h1 few h2, h1⟩
theorem empty_len {α β : Type} {xs : List α} {ds : List β} (h : xs.length = ds.length) : ds.isEmpty = xs.isEmpty := by
  cases xs <;> cases ds <;> first | rfl | cases h
theorem eqv_nil (ds : List PyData) : PyData.eqv (.tuple ds) (.tuple []) = ds.isEmpty := by
  cases ds <;> rfl
section
variable {P : Program} {w : World} {K : PySem.W.Frag} {mg : Str → Option Value} {base : Heap} {n : Nat}
theorem scLets : FnScope ["_law_store", "_law_wish_here", "_law_boxes", "_law_holders", "_law_bands", "_law_sizes"] ["_law_store", "_law_wish_here"] (defScope sLets) := ⟨rfl, rfl, rfl, by decide +kernel, rfl, by decide +kernel, by decide +kernel⟩
theorem ok_lets {f : Addr} {fd : FuncData} (F : Fun K "_law_lets" "_law_lets" sLets f fd) (B : Blt mg) : FnOk P w K mg base CX0 1 f fd ["_law_store", "_law_wish_here"] (spLets K) := by
  refine F.ok scLets (fun vs H Q E h => ?_) (fun cdv A outer s H vs Q E hr h => ?_)
  · obtain ⟨st, wt, S, kind, name, args, rfl, _⟩ := h
    rfl
  · obtain ⟨st, wt, S, kind, name, args, rfl, hS, so, hw, ck, nk, k⟩ := h
    have hu := hu_of hr
    refine ⟨_, pss_cons (ps_asg (pv 0) (pg_tup (n := 4) rfl (pgs_cons (pg_name (i := 2) scLets.nd rfl (Or.inl rfl)) (pgs_cons (pg_name (i := 3) scLets.nd rfl (Or.inl rfl)) (pgs_cons (pg_name (i := 4) scLets.nd rfl (Or.inl rfl)) (pgs_cons (pg_name (i := 5) scLets.nd rfl (Or.inl rfl)) pgs_nil))))))
      (pss_cons (ps_if (pt_cmpR op_eq (pe_ix ix_tup (pv 1) pe_int (fun _ _ => rfl)) pe_str (nomark _)) (pss_one ps_never) pss_nil)
      (pss_cons (ps_if (pt_cmpR op_eq (pe_ix ix_tup (pv 1) pe_int (fun _ _ => rfl)) pe_str (nomark _)) (pss_one ps_never) pss_nil)
      (pss_cons (ps_if (pt_cmpR op_eq (pe_ix ix_tup (pv 1) pe_int (fun _ _ => rfl)) pe_str (nomark _)) (pss_one (ps_ret (pe_or (pe_cmpR op_isN (pe_dget hu (pv 5) (pe_ix ix_tup (pv 1) pe_int (fun _ _ => rfl)) (fun _ _ => rfl)) pe_non (nomark _))
          (pe_one (pe_cmpR op_lt (pe_callB call_len_seq (by rfl) B.len PySem.boot_len (pa_cons (pe_dget hu (pv 4) (pe_ix ix_tup (pv 1) pe_int (fun _ _ => rfl)) (fun _ _ => rfl)) pa_nil)) (pe_dget hu (pv 5) (pe_ix ix_tup (pv 1) pe_int (fun _ _ => rfl)) (fun _ _ => rfl)) (nomark _)))))) pss_nil)
      (pss_one (ps_ret (pe_or (pe_cmpR op_ne (pe_ix ix_tup (pv 1) pe_int (fun _ _ => rfl)) pe_str (nomark _)) (pe_one (pe_cmpR (op_neD hr.units) (pe_dget hu (pv 4) (pe_ix ix_tup (pv 1) pe_int (fun _ _ => rfl)) (fun _ _ => rfl)) (pe_tup pa_nil) (nomark _))))))))), ?_⟩
    obtain ⟨bx, hx, rx, zx, rk, h1, h2, h3, h4, h5, h6⟩ := hS.ex
    refine ⟨_, rfl, st, _, rfl, h1, rfl, _, _, rfl, _, _, rfl, _, _, rfl, _, _, rfl, rfl, ?_⟩
    have at0 : ∀ xs, atI (V.str kind :: xs) 0 = some (V.str kind) := fun _ => atI_nat (j := 0) rfl
    have at1 : ∀ xs, atI (V.str kind :: V.str name :: xs) 1 = some (V.str name) := fun _ => atI_nat (j := 1) rfl
    have ne : kind ≠ "until" ∧ kind ≠ "take" := by
      rcases ck with ⟨rfl, _⟩ | ⟨rfl, _⟩ <;> decide +kernel
    refine ⟨_, rfl, wt, _, _, _, rfl, rfl, hw, at0 _, rfl, _, rfl, ?_⟩
    rw [decide_eq_false (fun z => ne.1 (V.str.inj z))]
    refine iteF ?_
    refine ⟨_, rfl, wt, _, _, _, rfl, rfl, hw, at0 _, rfl, _, rfl, ?_⟩
    rw [decide_eq_false (fun z => ne.2 (V.str.inj z))]
    refine iteF ?_
    refine ⟨_, rfl, wt, _, _, _, rfl, rfl, hw, at0 _, rfl, _, rfl, ?_⟩
    obtain ⟨z, hz, zk⟩ := so.size name nk
    obtain ⟨a, ha, qa⟩ := h5.at_ name nk
    have gz : DGet H zx (.str name) (some z) := hz ▸ DGet.k (k := Sum.inr name) h6
    have ga : DGet H rx (.str name) (some (.ref a)) := ha ▸ DGet.k (k := Sum.inr name) h4
    rcases ck with ⟨rfl, x, rfl⟩ | ⟨rfl, rfl⟩
    · rw [decide_eq_true rfl]
      refine iteT ?_
      have el : letsM S "lay" name = room S name := if_pos rfl
      rw [el] at k
      unfold room at k
      rw [hz] at k
      refine ⟨_, rfl, _, rfl, wt, _, _, _, rfl, rfl, hw, at1 _, zx, _, rfl, gz, rfl, _, rfl, ?_⟩
      rcases zk with rfl | ⟨i, rfl⟩
      · exact iteT (k _ (Same.refl _))
      · refine iteF ?_
        exact ⟨_, rfl, _, rfl, wt, _, _, _, rfl, rfl, hw, at1 _, rx, _, rfl, ga, a, _, rfl, .inr qa, _, rfl, _, rfl, wt, _, _, _, rfl, rfl, hw, at1 _, zx, _, rfl, gz, _, _, rfl, rfl, k _ (Same.refl _)⟩
    · rw [decide_eq_false (by decide +kernel)]
      refine iteF ?_
      have el : letsM S "fetch" name = !(S.bc name).isEmpty := if_neg (by decide +kernel)
      rw [el] at k
      refine ⟨_, rfl, wt, _, _, _, rfl, rfl, hw, at0 _, rfl, _, rfl, ?_⟩
      refine iteF ?_
      obtain ⟨ds, vd, ld⟩ := pv_tup qa (so.vals name nk) (Nat.le_trans (so.len name nk) (by decide))
      refine ⟨_, rfl, _, rfl, wt, _, _, _, rfl, rfl, hw, at1 _, rx, _, rfl, ga, Nat.zero_le _, fun p hp => ?_⟩
      have sp := same_new (o := .tup []) hp
      refine ⟨.tuple ds, .tuple [], (vd.tk (TK.of sp)).dp, .tup (SqT.of upd_same) .nil, vd.shaped (by omega), rfl, ?_⟩
      rw [eqv_nil]
      have e : ds.isEmpty = (S.bc name).isEmpty := empty_len ld
      rw [e]
      exact k _ sp
theorem scChanged : FnScope ["_law_things", "_law_name", "_law_value_here", "_law_found"] ["_law_things", "_law_name", "_law_value_here"] (defScope sChanged) := ⟨rfl, rfl, rfl, by decide +kernel, rfl, by decide +kernel, by decide +kernel⟩
theorem ok_changed {f : Addr} {fd : FuncData} (F : Fun K "_law_changed" "_law_changed" sChanged f fd) (B : Blt mg) : FnOk P w K mg base CX0 1 f fd ["_law_things", "_law_name", "_law_value_here"] spChanged := by
  refine F.ok scChanged (fun vs H Q E h => ?_) (fun cdv A outer s H vs Q E hr h => ?_)
  · obtain ⟨d, c, nm, v, rfl, _⟩ := h
    rfl
  · obtain ⟨d, c, nm, v, rfl, hd, few, k⟩ := h
    have hu := hu_of hr
    refine ⟨_, pss_cons (ps_set (i := 3) scChanged.nd rfl (.inl rfl) (pe_callTy call_dictD (by rfl) B.dict (by decide +kernel) (pa_cons (pv 0) pa_nil)))
      (pss_cons (ps_dput hu (pv 3) (pv 1) (pv 2) rfl) (pss_one (ps_ret (pv 3)))), ?_⟩
    refine ⟨_, rfl, d, c, rfl, .inl hd, fun p hp => ?_⟩
    refine ⟨_, rfl, _, rfl, _, rfl, p, _, rfl, DPut.k (k := Sum.inr nm) upd_same (Nat.lt_of_lt_of_le (Nat.lt_succ_of_le few) (small_sz (n := 1001) (by decide))), _, rfl, ?_⟩
    rw [upd_upd]
    exact k p _ (same_new hp) upd_same
theorem scDoL : FnScope ["_law_store", "_law_k", "_law_wish_here", "_law_boxes", "_law_holders", "_law_bands", "_law_sizes", "_law_kind", "_law_name", "_law_answer"] ["_law_store", "_law_k", "_law_wish_here"] (defScope sDoL) := ⟨rfl, rfl, rfl, by decide +kernel, rfl, by decide +kernel, by decide +kernel⟩
theorem ok_doL {f fC : Addr} {fd fdC : FuncData} (F : Fun K "_law_do" "_law_do" sDoL f fd) (B : Blt mg)
    (GC : FnOk P w K mg base CX0 1 fC fdC ["_law_things", "_law_name", "_law_value_here"] spChanged) (mC : mg "_law_changed" = some (.ref fC)) (kC : PySem.W.keepIn K (.ref fC) = true) (bC : Binds K fdC ["_law_things", "_law_name", "_law_value_here"] []) :
    FnOk P w K mg base CX0 2 f fd ["_law_store", "_law_k", "_law_wish_here"] (spDoL K) := by
  refine F.ok scDoL (fun vs H Q E h => ?_) (fun cdv A outer s H vs Q E hr h => ?_)
  · obtain ⟨st, wt, k, S, S', kind, name, args, a, rfl, _⟩ := h
    rfl
  · obtain ⟨st, wt, kk, S, S', kind, name, args, a, rfl, hS, so, hw, nk, dm, k⟩ := h
    have hu := hu_of hr
    have hr1 : Room 1 _ := hr.mono (by omega)
    refine ⟨_, pss_cons (ps_asg (pv 0) (pg_tup (n := 4) rfl (pgs_cons (pg_name (i := 3) scDoL.nd rfl (Or.inl rfl)) (pgs_cons (pg_name (i := 4) scDoL.nd rfl (Or.inl rfl)) (pgs_cons (pg_name (i := 5) scDoL.nd rfl (Or.inl rfl)) (pgs_cons (pg_name (i := 6) scDoL.nd rfl (Or.inl rfl)) pgs_nil))))))
      (pss_cons (ps_par (i := 7) (j := 8) rfl scDoL.nd rfl rfl (by decide) rfl rfl (pa_cons (pe_ix ix_tup (pv 2) pe_int (fun _ _ => rfl)) (pa_cons (pe_ifExp (pt_cmpR op_gt (pe_callB call_len_seq (by rfl) B.len PySem.boot_len (pa_cons (pv 2) pa_nil)) pe_int (nomark _)) (pe_ix ix_tup (pv 2) pe_int (fun _ _ => rfl)) pe_non) pa_nil)) (by rfl))
      (pss_cons (ps_if (pt_cmpR op_in_seq (pv 7) (pe_tup (pa_cons pe_str (pa_cons pe_str pa_nil))) (by rfl)) (pss_one ps_never) pss_nil)
      (pss_cons (ps_if (pt_cmpR op_eq (pv 7) pe_str (nomark _)) (pss_one ps_never) pss_nil)
      (pss_cons (ps_if (pt_cmpR op_in_seq (pv 7) (pe_tup (pa_cons pe_str (pa_cons pe_str pa_nil))) (by rfl)) pss_rest pss_nil)
      (pss_cons (ps_if (pt_cmpR op_eq (pv 7) pe_str (nomark _)) pss_rest pss_nil)
      (pss_cons (ps_if (PW.pt (pw_and (pt_cmpR op_eq (pv 7) pe_str (nomark _)) (pw_and1 (pt_cmpR op_notN pe_never pe_non (nomark _))))) pss_rest pss_nil)
      (pss_cons (ps_if (pt_cmpR op_in_seq (pv 7) (pe_tup (pa_cons pe_str (pa_cons pe_str (pa_cons pe_str pa_nil)))) (by rfl)) pss_rest pss_nil)
      (pss_cons (ps_if (pt_cmpR op_eq (pv 7) pe_str (nomark _))
        (pss_one (ps_ret (pe_tup (pa_cons pe_non (pa_cons (pe_tup (pa_cons (pv 3) (pa_cons (pv 4) (pa_cons (pe_call GC hr1 rfl mC kC bC .nil pass0 (pa_cons (pv 5) (pa_cons (pv 8) (pa_cons (pe_op op_catU (pe_dget hu (pv 5) (pv 8) (fun _ _ => rfl)) (pe_tup (pa_cons (pe_ix ix_tup (pv 2) pe_int (fun _ _ => rfl)) pa_nil))) pa_nil)))) (pa_cons (pv 6) pa_nil))))) pa_nil))))) pss_nil)
      (pss_one (ps_ret (pe_tup (pa_cons (pe_ix ix_tup (pe_dget hu (pv 5) (pv 8) (fun _ _ => rfl)) pe_int (fun _ _ => rfl)) (pa_cons (pe_tup (pa_cons (pv 3) (pa_cons (pv 4) (pa_cons (pe_call GC hr1 rfl mC kC bC .nil pass0 (pa_cons (pv 5) (pa_cons (pv 8) (pa_cons (pe_slice sl_tup (pe_dget hu (pv 5) (pv 8) (fun _ _ => rfl)) (po_some pe_int) po_none) pa_nil)))) (pa_cons (pv 6) pa_nil))))) pa_nil))))))))))))), ?_⟩
    obtain ⟨bx, hx, rx, zx, rk, h1, h2, h3, h4, h5, h6⟩ := hS.ex
    refine ⟨_, rfl, st, _, rfl, h1, rfl, _, _, rfl, _, _, rfl, _, _, rfl, _, _, rfl, rfl, ?_⟩
    refine ⟨_, rfl, wt, _, _, _, rfl, rfl, hw, atI_nat (j := 0) rfl, ?_⟩
    refine ⟨_, rfl, wt, _, rfl, .inr hw, _, _, rfl, rfl, _, rfl, ?_⟩
    rw [decide_eq_true (by simp only [List.length_cons]; omega)]
    refine iteT ?_
    refine ⟨_, rfl, wt, _, _, _, rfl, rfl, hw, atI_nat (j := 1) rfl, _, _, rfl, ?_⟩
    obtain ⟨a0, ha, qa⟩ := h5.at_ name nk
    have rl := h5.len
    have fin : ∀ (v : V) (xs : List V) (a1 : Addr) (H1 : Hp), Same H H1 → SqT K H1 a1 xs → S' = { S with bc := setB S.bc name xs } → a = v → ∀ (d : Addr) (H2 : Hp), Same H1 H2 → H2 d = some (.dK (putK rk (Sum.inr name) (.ref a1))) → (4 ≤ sizeLine ∧ ∀ q, H2 q = none → 2 ≤ sizeLine ∧ ∀ p, (upd H2 q (.tup [.ref bx, .ref hx, .ref d, .ref zx])) p = none → Q (.ref p) (upd (upd H2 q (.tup [.ref bx, .ref hx, .ref d, .ref zx])) p (.tup [v, .ref q]))) := fun v xs a1 H1 s1 q1 ec ea d H2 s2 hd => ⟨four_sz, fun q hq => ⟨two_sz, fun p hp => by
      rw [ea, ec] at k
      have sq := same_new (o := .tup [.ref bx, .ref hx, .ref d, .ref zx]) hq
      have sp := same_new (o := .tup [v, .ref q]) hp
      have S0 := s1.trans s2
      have all := S0.trans (sq.trans sp)
      refine k p q _ all (SqT.of upd_same) ⟨bx, hx, d, zx, _, SqT.of (sp _ _ upd_same), all _ _ h2, all _ _ h3, sp _ _ (sq _ _ hd), ((h5.tk (TK.of s1)).put nk q1).tk (TK.of (s2.trans (sq.trans sp))), all _ _ h6⟩⟩⟩
    have skip2 : ∀ {H1 : Hp}, Same H H1 → True := fun _ => trivial
    have DG : ∀ {H1 : Hp}, Same H H1 → DGet H1 rx (.str name) (some (.ref a0)) := fun s1 => ha ▸ DGet.k (k := Sum.inr name) (s1 _ _ h4)
    cases dm with
    | lay =>
      rename_i x
      refine ⟨_, rfl, two_sz, fun p hp => ?_⟩
      have s1 := same_new (o := .tup [.str "rest", .str "until"]) hp
      refine ⟨p, _, rfl, .inr (SqT.of upd_same), rfl, rfl, _, rfl, ?_⟩
      refine iteF ⟨_, rfl, rfl, _, rfl, iteF ?_⟩
      refine ⟨_, rfl, two_sz, fun p2 hp2 => ?_⟩
      have s2 := s1.trans (same_new (o := .tup [.str "put", .str "swap"]) hp2)
      refine ⟨p2, _, rfl, .inr (SqT.of upd_same), rfl, rfl, _, rfl, ?_⟩
      refine iteF ⟨_, rfl, rfl, _, rfl, iteF ?_⟩
      refine ⟨_, rfl, rfl, _, rfl, iteF (iteF ?_)⟩
      refine ⟨_, rfl, small_sz (n := 3) (by decide), fun p3 hp3 => ?_⟩
      have s3 := s2.trans (same_new (o := .tup [.str "take", .str "give", .str "reach"]) hp3)
      refine ⟨p3, _, rfl, .inr (SqT.of upd_same), rfl, rfl, _, rfl, ?_⟩
      refine iteF ⟨_, rfl, rfl, _, rfl, iteT ?_⟩
      refine ⟨_, rfl, _, rfl, _, rfl, _, rfl, _, rfl, _, rfl, rx, _, rfl, DG s3, _, rfl, wt, _, _, _, rfl, rfl, seqT_same s3 hw, atI_nat (j := 2) rfl, small_sz (n := 1) (by decide), fun p4 hp4 => ?_⟩
      have s4 := s3.trans (same_new (o := .tup [x]) hp4)
      refine ⟨a0, p4, _, [x], rfl, rfl, seqT_same s4 qa, SqT.of upd_same, ?_, fun p5 G5 s5 q5 => ?_⟩
      · have := so.len name nk
        exact Nat.le_trans (by show (S.bc name).length + 1 ≤ 901; omega) (small_sz (n := 901) (by decide))
      have s5' := s4.trans s5
      refine ⟨rx, rk, name, .ref p5, rfl, s5' _ _ h4, by rw [rl]; have := so.few; omega, fun d H2 s6 hd => ⟨_, rfl, ?_⟩⟩
      exact fin _ _ p5 _ s5' q5 rfl rfl d H2 s6 hd
    | fetch hc =>
      rename_i r
      refine ⟨_, rfl, two_sz, fun p hp => ?_⟩
      have s1 := same_new (o := .tup [.str "rest", .str "until"]) hp
      refine ⟨p, _, rfl, .inr (SqT.of upd_same), rfl, rfl, _, rfl, ?_⟩
      refine iteF ⟨_, rfl, rfl, _, rfl, iteF ?_⟩
      refine ⟨_, rfl, two_sz, fun p2 hp2 => ?_⟩
      have s2 := s1.trans (same_new (o := .tup [.str "put", .str "swap"]) hp2)
      refine ⟨p2, _, rfl, .inr (SqT.of upd_same), rfl, rfl, _, rfl, ?_⟩
      refine iteF ⟨_, rfl, rfl, _, rfl, iteF ?_⟩
      refine ⟨_, rfl, rfl, _, rfl, iteF (iteF ?_)⟩
      refine ⟨_, rfl, small_sz (n := 3) (by decide), fun p3 hp3 => ?_⟩
      have s3 := s2.trans (same_new (o := .tup [.str "take", .str "give", .str "reach"]) hp3)
      refine ⟨p3, _, rfl, .inr (SqT.of upd_same), rfl, rfl, _, rfl, ?_⟩
      refine iteF ⟨_, rfl, rfl, _, rfl, iteF ?_⟩
      rw [hc] at qa
      refine ⟨_, rfl, _, rfl, rx, _, rfl, DG s3, a0, _, _, _, rfl, rfl, seqT_same s3 qa, atI_nat (j := 0) rfl, _, rfl, _, rfl, _, rfl, _, rfl, _, rfl, _, rfl, rx, _, rfl, DG s3, ?_⟩
      have e0 : HT.sIx (a :: r).length 0 (some 1) = 1 := by
        show min 1 (r.length + 1) = 1
        omega
      have e1 : cutV (a :: r) (some 1) none = r := by
        unfold cutV
        rw [e0]
        show (List.take (r.length + 1 - 1) r) = r
        exact List.take_of_length_le (by omega)
      refine ⟨_, rfl, a0, a :: r, rfl, seqT_same s3 qa, (fun z => by rw [e0] at z; exact absurd z.1 (by decide)), fun p4 hp4 => ?_⟩
      rw [e1]
      have s4 := s3.trans (same_new (o := .tup r) hp4)
      refine ⟨rx, rk, name, .ref p4, rfl, s4 _ _ h4, by rw [rl]; have := so.few; omega, fun d H2 s6 hd => ⟨_, rfl, ?_⟩⟩
      exact fin _ _ p4 _ s4 (SqT.of upd_same) rfl rfl d H2 s6 hd
end
end TW
namespace TW
open PySem PySem.Spec PyProof.Rows L2
abbrev sBegun : Stmt := top 77
abbrev sCanL : Stmt := top 78
abbrev sGoL : Stmt := top 79
abbrev sOutL : Stmt := top 80
abbrev tIx (K : PySem.W.Frag) (a b : TE) : TE := tOp (rIxT K) a b
/-- all but B stands, and all but lists and instances -/
structure Frm (B : Addr → Prop) (H H' : Hp) : Prop where
  l : ∀ b o, ¬ B b → H b = some o → H' b = some o
  d : DK H H'
theorem Frm.of {B : Addr → Prop} {H H' : Hp} (e : Same H H') : Frm B H H' := ⟨fun b o _ h => e b o h, .of e⟩
theorem Frm.trans {B : Addr → Prop} {H H1 H2 : Hp} (a : Frm B H H1) (b : Frm B H1 H2) : Frm B H H2 := ⟨fun c o n e => b.l c o n (a.l c o n e), a.d.trans b.d⟩
theorem Frm.tk {B : Addr → Prop} {K : PySem.W.Frag} {H H' : Hp} (e : Frm B H H') : TK K H H' := e.d.tk
theorem RowsAt.frm {K : PySem.W.Frag} {B : Addr → Prop} {H H' : Hp} {rl : Addr} {rows : List Row} (nb : ¬ B rl) (e : Frm B H H') (h : RowsAt K H rl rows) : RowsAt K H' rl rows := by
  obtain ⟨xs, h1, h2, h3⟩ := h.ex
  exact ⟨xs, e.l _ _ nb h1, h2, fun i x r a b => (h3 i x r a b).tk e.tk⟩
/-- a plan of rows about cells -/
structure PlanAt (K : PySem.W.Frag) (B : Addr → Prop) (H : Hp) (pl : Addr) (rowss : List (List Row)) (sizes : List (Key × V)) : Prop where
  ex : ∃ wl bx lk bd wxs, SqT K H pl [.ref wl, .ref bx, .ref lk, .ref bd] ∧ (H wl = some (.lst wxs) ∧ ¬ B wl) ∧ wxs.length = rowss.length ∧ (∀ (i : Nat) (x : V) (rows : List Row), wxs[i]? = some x → rowss[i]? = some rows → ∃ rl, x = .ref rl ∧ ¬ B rl ∧ RowsAt K H rl rows) ∧
    H bx = some (.dK []) ∧ (H lk = some (.lst []) ∧ ¬ B lk) ∧ H bd = some (.dK sizes)
theorem DK.dict {H H' : Hp} {d : Addr} {c : List (Key × V)} (e : DK H H') (h : H d = some (.dK c)) : H' d = some (.dK c) := e _ _ h (fun _ z => (nomatch z)) fun _ _ _ z => (nomatch z)
theorem PlanAt.frm {K : PySem.W.Frag} {B : Addr → Prop} {H H' : Hp} {pl : Addr} {rowss : List (List Row)} {sizes : List (Key × V)} (e : Frm B H H') (h : PlanAt K B H pl rowss sizes) : PlanAt K B H' pl rowss sizes := by
  obtain ⟨wl, bx, lk, bd, wxs, h1, ⟨h2, n2⟩, h3, h4, h5, ⟨h6, n6⟩, h7⟩ := h.ex
  exact ⟨wl, bx, lk, bd, wxs, e.tk _ _ h1, ⟨e.l _ _ n2 h2, n2⟩, h3, fun i x rows a b => by
    obtain ⟨rl, e1, nb, e2⟩ := h4 i x rows a b
    exact ⟨rl, e1, nb, e2.frm nb e⟩, e.d.dict h5, ⟨e.l _ _ n6 h6, n6⟩, e.d.dict h7⟩
/-- where a run of a plan stands: its things, the answers so far, where each work stands, the last answer -/
structure StateAt (K : PySem.W.Frag) (B : Addr → Prop) (H : Hp) (sx : Addr) (rowss : List (List Row)) (S : Sto) (anss : List (List V)) (last : Option V) : Prop where
  ex : ∃ st al sl pl axs sxs pxs, SqT K H sx [.ref st, .ref al, .ref sl, .ref pl] ∧ StoreAt K H st S ∧ (H al = some (.lst axs) ∧ ¬ B al) ∧ (H sl = some (.lst sxs) ∧ ¬ B sl) ∧ (H pl = some (.lst pxs) ∧ ¬ B pl) ∧
    anss.length = rowss.length ∧ axs.length = rowss.length ∧ sxs.length = rowss.length ∧ pxs.length ≤ 1000 ∧ (∀ (i : Nat) (x : V) (ans : List V), axs[i]? = some x → anss[i]? = some ans → ∃ a, x = .ref a ∧ SqT K H a ans) ∧
    (∀ (i : Nat) (x : V) (rows : List Row) (ans : List V), sxs[i]? = some x → rowss[i]? = some rows → anss[i]? = some ans → StandAt K H x rows ans) ∧
    (∀ a, last = some a → ∃ t k wv, pxs.getLast? = some (.ref t) ∧ SqT K H t [k, wv, a]) ∧ pxs.length = (anss.map List.length).sum
theorem StateAt.frm {K : PySem.W.Frag} {B : Addr → Prop} {H H' : Hp} {sx : Addr} {rowss : List (List Row)} {S : Sto} {anss : List (List V)} {last : Option V} (e : Frm B H H') (h : StateAt K B H sx rowss S anss last) : StateAt K B H' sx rowss S anss last := by
  obtain ⟨st, al, sl, pl, axs, sxs, pxs, h1, h2, ⟨h3, n3⟩, ⟨h4, n4⟩, ⟨h5, n5⟩, l0, l1, l2, l3, h6, h7, h8, h9⟩ := h.ex
  exact ⟨st, al, sl, pl, axs, sxs, pxs, e.tk _ _ h1, h2.dk e.d, ⟨e.l _ _ n3 h3, n3⟩, ⟨e.l _ _ n4 h4, n4⟩, ⟨e.l _ _ n5 h5, n5⟩, l0, l1, l2, l3, fun i x ans a b => by
    obtain ⟨c, e1, e2⟩ := h6 i x ans a b
    exact ⟨c, e1, e.tk _ _ e2⟩, fun i x rows ans a b c => (h7 i x rows ans a b c).tk e.tk, fun a q => by
    obtain ⟨t, k, wv, e1, e2⟩ := h8 a q
    exact ⟨t, k, wv, e1, e.tk _ _ e2⟩, h9⟩
theorem StateAt.weak {K : PySem.W.Frag} {B B' : Addr → Prop} {H : Hp} {sx : Addr} {rowss : List (List Row)} {S : Sto} {anss : List (List V)} {last : Option V} (w : ∀ b, B' b → B b) (h : StateAt K B H sx rowss S anss last) : StateAt K B' H sx rowss S anss last := by
  obtain ⟨st, al, sl, pl, axs, sxs, pxs, h1, h2, ⟨h3, n3⟩, ⟨h4, n4⟩, ⟨h5, n5⟩, z⟩ := h.ex
  exact ⟨st, al, sl, pl, axs, sxs, pxs, h1, h2, ⟨h3, fun q => n3 (w _ q)⟩, ⟨h4, fun q => n4 (w _ q)⟩, ⟨h5, fun q => n5 (w _ q)⟩, z⟩
/-- what stood there -/
def Old (H : Hp) : Addr → Prop := fun b => H b ≠ none
/-- whether a work of a plan can go -/
def canM (S : Sto) (rows : List Row) (ans : List V) : Bool := match rows[ans.length]? with
  | some r => letsM S r.kind r.name
  | none => false
def emp (sizes : List (Key × V)) (bk : List Str) : Sto := ⟨bk, fun _ => [], sizes⟩
def spBegun (K : PySem.W.Frag) (n : Nat) : Sp := fun vs H Q _ => ∃ (pl : Addr) (B : Addr → Prop) (rowss : List (List Row)) (sizes : List (Key × V)) (bk names : List Str), vs = [.ref pl] ∧ PlanAt K B H pl rowss sizes ∧ rowss.length ≤ 100 ∧ (∀ rows ∈ rowss, RowsOk K H n names rows) ∧ sizes.map (·.1) = bk.map Sum.inr ∧ bk.Nodup ∧ bk.length ≤ 60 ∧
  ∀ sx H', Same H H' → StateAt K (Old H) H' sx rowss (emp sizes bk) (rowss.map fun _ => []) none → Q (.ref sx) H'
def spCanL (K : PySem.W.Frag) (n : Nat) : Sp := fun vs H Q _ => ∃ (sx : Addr) (B : Addr → Prop) (rowss : List (List Row)) (S : Sto) (anss : List (List V)) (last : Option V) (f : Nat → Bool), vs = [.ref sx] ∧ StateAt K B H sx rowss S anss last ∧ rowss.length ≤ 100 ∧ (∀ rows ∈ rowss, RowsOk K H n S.bk rows) ∧ StoOk K H S ∧
  (∀ (i : Nat) (rows : List Row) (ans : List V), rowss[i]? = some rows → anss[i]? = some ans → f i = canM S rows ans) ∧ ∀ D H', H D = none → Same H H' → H' D = some (.lst (upTo f rowss.length)) → Q (.ref D) H'
theorem RowsOk.tk {K : PySem.W.Frag} {n : Nat} {H H' : Hp} {names : List Str} {rows : List Row} (s : TK K H H') (o : RowsOk K H n names rows) : RowsOk K H' n names rows :=
  ⟨o.kind, o.name, o.parts, fun r hr v hv H'' tk => o.vals r hr v hv H'' fun a xs q => tk _ _ (s _ _ q), o.few⟩
section
variable {P : Program} {w : World} {K : PySem.W.Frag} {mg : Str → Option Value} {base : Heap} {n : Nat}
theorem scCanL : FnScope ["_law_state", "_law_store", "_law_answers", "_law_stands", "_law_steps", "_law_k", "_law_stand_here"] ["_law_state"] (defScope sCanL) := ⟨rfl, rfl, rfl, by decide +kernel, rfl, by decide +kernel, by decide +kernel⟩
theorem ok_canL {f fL : Addr} {fd fdL : FuncData} (F : Fun K "_law_can" "_law_can" sCanL f fd) (B : Blt mg)
    (GL : FnOk P w K mg base CX0 1 fL fdL ["_law_store", "_law_wish_here"] (spLets K)) (mL : mg "_law_lets" = some (.ref fL)) (kL : PySem.W.keepIn K (.ref fL) = true) (bL : Binds K fdL ["_law_store", "_law_wish_here"] []) :
    FnOk P w K mg base CX0 2 f fd ["_law_state"] (spCanL K n) := by
  refine F.ok scCanL (fun vs H Q E h => ?_) (fun cdv A outer s H vs Q E hr h => ?_)
  · obtain ⟨sx, Bn, rowss, S, anss, last, g, rfl, _⟩ := h
    rfl
  · obtain ⟨sx, Bn, rowss, S, anss, last, g, rfl, hS, few, ok, so, hc, k⟩ := h
    refine ⟨_, pss_cons (ps_asg (pv 0) (pg_tup (n := 4) rfl (pgs_cons (pg_name (i := 1) scCanL.nd rfl (Or.inr rfl)) (pgs_cons (pg_name (i := 2) scCanL.nd rfl (Or.inl rfl)) (pgs_cons (pg_name (i := 3) scCanL.nd rfl (Or.inl rfl)) (pgs_cons (pg_name (i := 4) scCanL.nd rfl (Or.inl rfl)) pgs_nil))))))
      (pss_one (ps_ret (pe_lc (own := [("_law_k", 5), ("_law_stand_here", 6)]) rfl scCanL.nd (pi_enum (by rfl) B.enumerate (pa_cons (pv 3) pa_nil)) (blkOk_by (N := ["_law_state", "_law_store", "_law_answers", "_law_stands", "_law_steps", "_law_k", "_law_stand_here"]) (sc := defScope sCanL) (by decide +kernel))
      (fun _ _ _ _ _ => pg_tupC (n := 2) rfl (pgs_cons (pg_name (i := 5) scCanL.nd rfl (Or.inl rfl)) (pgs_cons (pg_name (i := 6) scCanL.nd rfl (Or.inl rfl)) pgs_nil)))
      (tt := tAnd (tTest (tOp rEq (tIx K (tIx K (tVar 6) (tC (.int 0))) (tC (.int 0))) (tC (.str "wish")))) (tB (tCall (spLets K) [] E0 (tCons (tVar 1) (tCons (tIx K (tIx K (tVar 6) (tC (.int 0))) (tC (.int 1))) tNil)))))
      (fun _ _ _ _ _ => by exact pts_one (PW.pt (pw_and (pt_cmpR op_eq (pe_ix ix_tup (pe_ix ix_tup (pv 6) pe_int (fun _ _ => rfl)) pe_int (fun _ _ => rfl)) pe_str (nomark _)) (pw_and1 (pt_val (pe_call GL hr rfl mL kL bL .nil pass0 (pa_cons (pv 1) (pa_cons (pe_ix ix_tup (pe_ix ix_tup (pv 6) pe_int (fun _ _ => rfl)) pe_int (fun _ _ => rfl)) pa_nil))))))))
      (fun _ _ _ _ _ => pv 5)))), ?_⟩
    obtain ⟨st, al, sl, pl, axs, sxs, pxs, h1, h2, ⟨h3, n3⟩, ⟨h4, n4⟩, ⟨h5, n5⟩, l0, l1, l2, l3, h6, h7, h8, h9⟩ := hS.ex
    refine ⟨_, rfl, sx, _, rfl, h1, rfl, _, _, rfl, _, _, rfl, _, _, rfl, _, _, rfl, rfl, ?_⟩
    refine ⟨_, rfl, sl, _, rfl, SqL.of h4, fun D hD => ?_⟩
    refine lc_it (walk_enum (K := K) (a := sl) (xs := sxs)) (fun i H' => Same H H' ∧ H' D = some (.lst (upTo g i))) ⟨same_new hD, upd_same⟩ (fun i H' _ p => SqL.of (p.1 _ _ h4)) (fun i x H1 H' hi p y => ?_) (fun H1 p => ?_)
    · obtain ⟨T, x1, x2, rfl, hT, rfl, e1, e2⟩ := y
      obtain rfl := (Option.some.inj e1).symm
      dsimp only at e2
      have sT := same_new (o := HO.tup [V.int (i : Nat), x2]) hT
      have sm := p.1.trans sT
      obtain ⟨rows, hrow⟩ : ∃ rows, rowss[i]? = some rows := ⟨_, List.getElem?_eq_getElem (l2 ▸ hi)⟩
      obtain ⟨ans, hans⟩ : ∃ ans, anss[i]? = some ans := ⟨_, List.getElem?_eq_getElem (by omega)⟩
      obtain ⟨t, pp, u, rfl, q1, q2, q3⟩ := (h7 i x2 rows ans e2 hrow hans).tk (TK.of sm) |>.ex
      refine ⟨T, [.int (i : Nat), .ref t], rfl, SqT.of upd_same, rfl, _, _, rfl, _, _, rfl, rfl, rfl, ?_⟩
      have d0 := sT _ _ p.2
      generalize upd H1 T (.tup [V.int (i : Nat), .ref t]) = H2 at *
      have b1 : upTo g (i + 1) = (if g i = true then upTo g i ++ [.int (i : Nat)] else upTo g i) := rfl
      have hgi := hc i rows ans hrow hans
      rcases q3 with ⟨lt, wt, r, er, qp, qw⟩ | ⟨eq, qp⟩
      · have ro := ok rows (List.mem_of_getElem? hrow)
        have mem := List.mem_of_getElem? er
        have ck := ro.kind r mem (notesAt rows ans ans.length)
        rw [rowWish_cell ck.ne.2.2.2.2] at qw
        have eg : g i = letsM S r.kind r.name := by
          rw [hgi]
          unfold canM
          rw [er]
        refine ⟨_, rfl, t, _, _, _, rfl, rfl, q1, atI_nat (j := 0) rfl, pp, _, _, _, rfl, rfl, qp, atI_nat (j := 0) rfl, rfl, _, rfl, ?_⟩
        rw [decide_eq_true rfl]
        refine iteT ?_
        refine ⟨_, rfl, _, rfl, t, _, _, _, rfl, rfl, q1, atI_nat (j := 0) rfl, pp, _, _, _, rfl, rfl, qp, atI_nat (j := 1) rfl, ?_⟩
        refine ⟨st, wt, S, r.kind, r.name, _, rfl, h2.same sm, so.tk (TK.of sm), qw, ck, ro.name r mem, fun H3 s3 => ⟨_, rfl, ?_⟩⟩
        have d3 := s3 _ _ d0
        have sm3 := sm.trans s3
        rw [← eg]
        cases e : g i with
        | true =>
          rw [e, if_pos rfl] at b1
          refine iteT ⟨_, rfl, upTo g i, d3, ?_, fun b o z => ?_, ?_⟩
          · exact Nat.lt_of_lt_of_le (Nat.lt_succ_of_le (Nat.le_trans (upTo_len g i) (by omega : i ≤ 100))) (small_sz (by decide))
          · rw [upd_ne (ne_of_none z hD)]
            exact sm3 b o z
          · rw [upd_same, b1]
        | false =>
          rw [e, if_neg (by decide)] at b1
          refine iteF ⟨sm3, ?_⟩
          rw [b1]
          exact d3
      · have e : g i = false := by
          rw [hgi]
          unfold canM
          rw [List.getElem?_eq_none (by omega)]
        refine ⟨_, rfl, t, _, _, _, rfl, rfl, q1, atI_nat (j := 0) rfl, pp, _, _, _, rfl, rfl, qp, atI_nat (j := 0) rfl, rfl, _, rfl, ?_⟩
        rw [decide_eq_false (by decide +kernel)]
        rw [e, if_neg (by decide)] at b1
        refine iteF (iteF ⟨sm, ?_⟩)
        rw [b1]
        exact d0
    · have z := p.2
      rw [l2] at z
      exact k D H1 hD p.1 z
end
end TW
namespace TW
open PySem PySem.Spec PyProof.Rows L2
theorem rep_one {α : Type} (m : Nat) (x : α) : (List.replicate ((m : Nat) : Int).toNat [x]).flatten = List.replicate m x := by
  rw [show ((m : Nat) : Int).toNat = m from Int.toNat_natCast m]
  induction m with
  | zero => rfl
  | succ m ih => rw [List.replicate_succ, List.flatten_cons, ih, List.replicate_succ]; rfl
theorem sum_zero {α : Type} : ∀ l : List α, (l.map (List.length ∘ fun _ => ([] : List V))).sum = 0
  | [] => rfl
  | a :: l => by
    rw [List.map_cons, List.sum_cons, sum_zero l]
    rfl
theorem put_new {kvs : List (Key × V)} {k : Key} {v : V} (h : k ∉ kvs.map (·.1)) : putK kvs k v = kvs ++ [(k, v)] := by
  unfold putK
  rw [if_neg (fun z => by
    obtain ⟨p, hp, e⟩ := List.any_eq_true.mp z
    exact h (List.mem_map.mpr ⟨p, hp, of_decide_eq_true e⟩))]
theorem merge_new : ∀ (more kvs : List (Key × V)), (kvs.map (·.1) ++ more.map (·.1)).Nodup → mergeK kvs more = kvs ++ more
  | [], kvs, _ => (List.append_nil kvs).symm
  | (k, v) :: l, kvs, nd => by
    show mergeK (putK kvs k v) l = _
    rw [List.map_cons] at nd
    have h : k ∉ kvs.map (·.1) := fun m => (List.nodup_append.mp nd).2.2 k m k (List.mem_cons_self ..) rfl
    rw [put_new h, merge_new l (kvs ++ [(k, v)]) (by rw [List.map_append, List.append_assoc]; exact nd), List.append_assoc]
    rfl
theorem nodup_inr {l : List Str} (h : l.Nodup) : (l.map (Sum.inr : Str → Key)).Nodup := by
  induction l with
  | nil => exact List.nodup_nil
  | cons a l ih =>
    obtain ⟨h1, h2⟩ := List.nodup_cons.mp h
    refine List.nodup_cons.mpr ⟨fun m => ?_, ih h2⟩
    obtain ⟨b, hb, e⟩ := List.mem_map.mp m
    exact h1 (Sum.inr.inj e ▸ hb)
theorem valV_in {kvs : List (Key × V)} {k : Key} {v : V} (h : valV kvs k = some v) : (k, v) ∈ kvs := by
  induction kvs with
  | nil => cases h
  | cons p r ih =>
    obtain ⟨k', v'⟩ := p
    by_cases c : k' = k
    · subst c
      rw [valV_pos rfl] at h
      cases h
      exact List.mem_cons_self ..
    · rw [valV_neg c] at h
      exact List.mem_cons_of_mem _ (ih h)
section
variable {P : Program} {w : World} {K : PySem.W.Frag} {mg : Str → Option Value} {base : Heap} {n : Nat}
theorem scBegun : FnScope ["_law_plan", "_law_works", "_law_boxes", "_law_bolts", "_law_bands", "_law_holders", "_law_rows", "_law_name", "_law_answers", "_law_rows_of"] ["_law_plan"] (defScope sBegun) := ⟨rfl, rfl, rfl, by decide +kernel, rfl, by decide +kernel, by decide +kernel⟩
theorem ok_begun {f fS : Addr} {fd fdS : FuncData} (F : Fun K "_law_begun" "_law_begun" sBegun f fd) (B : Blt mg)
    (GS : FnOk P w K mg base CX0 3 fS fdS ["_law_rows", "_law_answers"] (spStand K n)) (mS : mg "_law_stand" = some (.ref fS)) (kS : PySem.W.keepIn K (.ref fS) = true) (bS : Binds K fdS ["_law_rows", "_law_answers"] []) :
    FnOk P w K mg base CX0 4 f fd ["_law_plan"] (spBegun K n) := by
  refine F.ok scBegun (fun vs H Q E h => ?_) (fun cdv A outer s H vs Q E hr h => ?_)
  · obtain ⟨pl, Bn, rowss, sizes, bk, names, rfl, _⟩ := h
    rfl
  · obtain ⟨pl, Bn, rowss, sizes, bk, names, rfl, hP, few, hok, hks, nd, fb, k⟩ := h
    refine ⟨_, pss_cons (ps_asg (pv 0) (pg_tup (n := 4) rfl (pgs_cons (pg_name (i := 1) scBegun.nd rfl (Or.inl rfl)) (pgs_cons (pg_name (i := 2) scBegun.nd rfl (Or.inl rfl)) (pgs_cons (pg_name (i := 3) scBegun.nd rfl (Or.inl rfl)) (pgs_cons (pg_name (i := 4) scBegun.nd rfl (Or.inl rfl)) pgs_nil))))))
      (pss_cons (ps_par (i := 5) (j := 6) rfl scBegun.nd rfl rfl (by decide) rfl rfl
        (pa_cons (pe_callTy (call_dictP rfl) (by rfl) B.dict (by decide +kernel) (pa_cons (pe_lc (own := [("_law_name", 7)]) rfl scBegun.nd (pi_list (pv 3)) (blkOk_by (N := ["_law_plan", "_law_works", "_law_boxes", "_law_bolts", "_law_bands", "_law_holders", "_law_rows", "_law_name", "_law_answers", "_law_rows_of"]) (sc := defScope sBegun) (by decide +kernel))
            (fun _ _ _ _ _ => pg_name (i := 7) scBegun.nd rfl (Or.inl rfl)) (fun _ _ _ _ _ => pts_nil) (te := tTup (tCons (tVar 7) (tCons (tC .non) tNil))) (fun _ _ _ _ _ => by exact pe_tup (pa_cons (pv 7) (pa_cons pe_non pa_nil)))) pa_nil))
        (pa_cons (pe_callTy (call_dictP rfl) (by rfl) B.dict (by decide +kernel) (pa_cons (pe_lock (pe_lc (own := [("_law_name", 7)]) rfl scBegun.nd (pi_keys (pv 4)) (blkOk_by (N := ["_law_plan", "_law_works", "_law_boxes", "_law_bolts", "_law_bands", "_law_holders", "_law_rows", "_law_name", "_law_answers", "_law_rows_of"]) (sc := defScope sBegun) (by decide +kernel))
            (fun _ _ _ _ _ => pg_name (i := 7) scBegun.nd rfl (Or.inl rfl)) (fun _ _ _ _ _ => pts_nil) (te := tTup (tCons (tVar 7) (tCons (tTup tNil) tNil))) (fun _ _ _ _ _ => by exact pe_tup (pa_cons (pv 7) (pa_cons (pe_tup pa_nil) pa_nil))))) pa_nil)) pa_nil)) (by rfl))
      (pss_cons (ps_set (i := 8) scBegun.nd rfl (.inl rfl) (pe_op op_rep (pe_lst (pa_cons (pe_tup pa_nil) pa_nil)) (pe_callB call_len_seq (by rfl) B.len PySem.boot_len (pa_cons (pv 1) pa_nil))))
      (pss_one (ps_ret (pe_tup (pa_cons (pe_tup (pa_cons (pv 2) (pa_cons (pv 5) (pa_cons (pv 6) (pa_cons (pv 4) pa_nil))))) (pa_cons (pv 8)
        (pa_cons (pe_lc (own := [("_law_rows_of", 9)]) rfl scBegun.nd (pi_list (pv 1)) (blkOk_by (N := ["_law_plan", "_law_works", "_law_boxes", "_law_bolts", "_law_bands", "_law_holders", "_law_rows", "_law_name", "_law_answers", "_law_rows_of"]) (sc := defScope sBegun) (by decide +kernel))
            (fun _ _ _ _ _ => pg_name (i := 9) scBegun.nd rfl (Or.inl rfl)) (fun _ _ _ _ _ => pts_nil) (te := tCall (spStand K n) [] E0 (tCons (tVar 9) (tCons (tTup tNil) tNil))) (fun _ _ _ _ _ => by exact pe_call GS hr rfl mS kS bS .nil pass0 (pa_cons (pv 9) (pa_cons (pe_tup pa_nil) pa_nil)))) (pa_cons (pe_lst pa_nil) pa_nil))))))))), ?_⟩
    obtain ⟨wl, bx, lk, bd, wxs, h1, ⟨h2, n2⟩, h3, h4, h5, ⟨h6, n6⟩, h7⟩ := hP.ex
    refine ⟨_, rfl, pl, _, rfl, h1, rfl, _, _, rfl, _, _, rfl, _, _, rfl, _, _, rfl, rfl, ?_⟩
    -- holders: none
    refine ⟨_, rfl, lk, rfl, ⟨_, SqL.of h6⟩, fun D hD => ?_⟩
    have s1 := same_new (o := .lst []) hD
    refine lc_it (walk_list (K := K) (a := lk) (xs := [])) (fun i H' => H' = upd H D (.lst [])) rfl (fun i H' _ p => by rw [p]; exact SqL.of (s1 _ _ h6)) (fun i x H1 H' hi p y => absurd hi (Nat.not_lt_zero _)) (fun H1 p => ?_)
    subst p
    refine ⟨D, [], [], rfl, SqL.of upd_same, .nil, fun hd hhd => ?_⟩
    have s2 := s1.trans (same_new (o := .dK (mergeK [] [])) hhd)
    have hh : (upd (upd H D (.lst [])) hd (.dK (mergeK [] []))) hd = some (.dK []) := upd_same
    generalize upd (upd H D (.lst [])) hd (.dK (mergeK [] [])) = H1 at *
    -- belts
    refine ⟨bd, _, s2 _ _ h7, trivial, fun od => ?_⟩
    refine ⟨_, rfl, bd, od, rfl, .inl ⟨sizes, upd_same, fun D2 hD2 => ?_⟩⟩
    have D2b : D2 ≠ bd := fun e => by
      rw [e, upd_same] at hD2
      cases hD2
    have D2n : H1 D2 = none := by
      rw [upd_ne D2b] at hD2
      exact hD2
    have ls : sizes.length = bk.length := by
      have z := congrArg List.length hks
      rw [List.length_map, List.length_map] at z
      exact z
    refine lc_it (walk_keys (d := bd) (o := od) (kvs := sizes)) (fun i H' => (∀ b o, b ≠ D2 → (upd H1 bd (.frz od (.dK sizes))) b = some o → H' b = some o) ∧ ∃ (ps : List Addr) (kvs : List (Key × V)), ps.length = i ∧ kvs.map (·.1) = (bk.take i).map Sum.inr ∧ H' D2 = some (.lst (ps.map V.ref)) ∧ Paired (fun p kv => SqT K H' p [kV kv.1, kv.2]) ps kvs ∧ ∀ kv ∈ kvs, ∃ a, kv.2 = .ref a ∧ SqT K H' a [])
      ⟨fun b o n e => (upd_ne n).trans e, [], [], rfl, rfl, upd_same, .nil, fun kv h => (nomatch h)⟩ (fun i H' _ p => p.1 _ _ (Ne.symm D2b) upd_same) (fun i x H2 H' hi p y => ?_) (fun H3 p => ?_)
    · obtain ⟨rfl, kk, vv, hkv, rfl⟩ := y
      obtain ⟨kp, ps, kvs, lp, kk2, hd2, pr, each⟩ := p
      obtain ⟨nm, hnm⟩ : ∃ nm, bk[i]? = some nm := ⟨_, List.getElem?_eq_getElem (ls ▸ hi)⟩
      have ek : kk = Sum.inr nm := by
        have z : (sizes.map (·.1))[i]? = some kk := by
          rw [List.getElem?_map, hkv]
          rfl
        rw [hks, List.getElem?_map, hnm] at z
        exact (Option.some.inj z).symm
      subst ek
      refine ⟨rfl, ?_⟩
      unfold tYes
      dsimp only
      refine iteT ?_
      refine ⟨_, rfl, Nat.zero_le _, fun u hu => ⟨two_sz, fun t ht => ?_⟩⟩
      have su := same_new (o := .tup []) hu
      have st := same_new (o := .tup [kV (Sum.inr nm), .ref u]) ht
      have sut := su.trans st
      have u2 : (upd (upd H' u (.tup [])) t (.tup [kV (Sum.inr nm), .ref u])) u = some (.tup []) := st _ _ upd_same
      have t2 : (upd (upd H' u (.tup [])) t (.tup [kV (Sum.inr nm), .ref u])) t = some (.tup [kV (Sum.inr nm), .ref u]) := upd_same
      generalize upd (upd H' u (.tup [])) t (.tup [kV (Sum.inr nm), .ref u]) = H5 at *
      have d5 := sut _ _ hd2
      have tkd : TK K H5 (upd H5 D2 (.lst (ps.map V.ref ++ [.ref t]))) := tk_lst d5
      have tk1 : TK K H' (upd H5 D2 (.lst (ps.map V.ref ++ [.ref t]))) := (TK.of sut).trans tkd
      refine ⟨ps.map V.ref, d5, ?_, fun b o n e => ?_, ps ++ [t], kvs ++ [(Sum.inr nm, .ref u)], by rw [List.length_append, lp]; rfl, ?_, by rw [List.map_append]; exact upd_same, ?_, fun kv hkv => ?_⟩
      · rw [List.length_map, lp]
        exact Nat.lt_of_lt_of_le (by omega : i < 100) (small_sz (n := 100) (by decide))
      · rw [upd_ne n]
        exact sut _ _ (kp b o n e)
      · rw [List.map_append, kk2, List.take_add_one, hnm, List.map_append]
        rfl
      · exact Paired.snoc (Paired.mapP pr fun p kv h => tk1 _ _ h) (tkd _ _ (SqT.of t2))
      · rcases List.mem_append.mp hkv with hkv | hkv
        · obtain ⟨a, e1, e2⟩ := each kv hkv
          exact ⟨a, e1, tk1 _ _ e2⟩
        · rw [List.mem_singleton.mp hkv]
          exact ⟨u, rfl, tkd _ _ (SqT.of u2)⟩
    obtain ⟨kp, ps, kvs, lp, kk2, hd2, pr, each⟩ := p
    have hbd := kp _ _ (Ne.symm D2b) upd_same
    refine ⟨hbd, ?_⟩
    have s3 : Same H1 (upd H3 bd (.dK sizes)) := fun b o e => by
      by_cases c : b = bd
      · subst c
        rw [upd_same, ← e]
        exact (s2 _ _ h7).symm
      · rw [upd_ne c]
        exact kp b o (ne_of_none e D2n) ((upd_ne c).trans e)
    have tk3 : TK K H3 (upd H3 bd (.dK sizes)) := fun a xs q => sqT_but hbd (fun _ z => (nomatch z)) (fun _ _ z => (nomatch z)) But.put q
    have d2 : (upd H3 bd (.dK sizes)) D2 = some (.lst (ps.map V.ref)) := (upd_ne D2b).trans hd2
    have pr := Paired.mapP pr fun p kv h => tk3 _ _ h
    have each : ∀ kv ∈ kvs, ∃ a, kv.2 = .ref a ∧ SqT K (upd H3 bd (.dK sizes)) a [] := fun kv h => by
      obtain ⟨a, e1, e2⟩ := each kv h
      exact ⟨a, e1, tk3 _ _ e2⟩
    rw [ls, List.take_length] at kk2
    generalize upd H3 bd (.dK sizes) = H2 at *
    refine ⟨D2, ps, kvs, rfl, SqL.of d2, pr, fun rd hrd => ?_⟩
    have em : mergeK [] kvs = kvs := merge_new kvs [] (by
      rw [List.map_nil, List.nil_append, kk2]
      exact nodup_inr nd)
    rw [em]
    have sr := same_new (o := .dK kvs) hrd
    have s4 := (s2.trans s3).trans sr
    have hh3 := sr _ _ (s3 _ _ hh)
    have hr3 : (upd H2 rd (.dK kvs)) rd = some (.dK kvs) := upd_same
    have RD3 : RowsD K (upd H2 rd (.dK kvs)) kvs bk (fun _ => []) := ⟨kk2, fun nm m => by
      obtain ⟨v, hv⟩ := valV_mem (kvs := kvs) (k := Sum.inr nm) (by rw [kk2]; exact List.mem_map.mpr ⟨nm, m, rfl⟩)
      obtain ⟨a, e1, e2⟩ := each _ (valV_in hv)
      exact ⟨a, hv.trans (congrArg some e1), seqT_same sr e2⟩⟩
    generalize upd H2 rd (.dK kvs) = H3 at *
    refine ⟨_, _, rfl, ?_⟩
    -- the answers: none as yet
    have one : 1 ≤ sizeLine := small_sz (n := 1) (by decide)
    have z0 : 0 ≤ sizeLine := Nat.zero_le _
    refine ⟨z0, fun e0 he0 => ⟨one, fun l0 hl0 => ?_⟩⟩
    have s5 := s4.trans ((same_new (o := .tup []) he0).trans (same_new (o := .lst [.ref e0]) hl0))
    have e5 : (upd (upd H3 e0 (.tup [])) l0 (.lst [.ref e0])) e0 = some (.tup []) := same_new hl0 _ _ upd_same
    have l5 : (upd (upd H3 e0 (.tup [])) l0 (.lst [.ref e0])) l0 = some (.lst [.ref e0]) := upd_same
    have h5' := (same_new (o := .tup []) he0).trans (same_new (o := .lst [.ref e0]) hl0)
    have hh5 := h5' _ _ hh3
    have hr5 := h5' _ _ hr3
    generalize upd (upd H3 e0 (.tup [])) l0 (.lst [.ref e0]) = H5 at *
    refine ⟨_, rfl, wl, _, rfl, .inl (SqL.of (s5 _ _ h2)), l0, (rowss.length : Nat), [.ref e0], rfl, by rw [h3], l5, by omega, by omega, ?_, fun al hal => ?_⟩
    · rw [Int.toNat_natCast]
      exact Nat.le_trans (by show 1 * rowss.length ≤ 100; omega) (small_sz (n := 100) (by decide))
    rw [rep_one]
    have s6 := s5.trans (same_new (o := .lst (List.replicate rowss.length (V.ref e0))) hal)
    have sa := same_new (o := .lst (List.replicate rowss.length (V.ref e0))) hal
    have e6 := sa _ _ e5
    have hh6 := sa _ _ hh5
    have hr6 := sa _ _ hr5
    have al6 : (upd H5 al (.lst (List.replicate rowss.length (V.ref e0)))) al = some (.lst (List.replicate rowss.length (V.ref e0))) := upd_same
    have al0 : H al = none := s5.free hal
    generalize upd H5 al (.lst (List.replicate rowss.length (V.ref e0))) = H6 at *
    refine ⟨_, rfl, _, rfl, _, rfl, _, rfl, four_sz, fun st hst => ⟨_, rfl, _, rfl, wl, rfl, ⟨_, SqL.of (same_new hst _ _ (s6 _ _ h2))⟩, fun D3 hD3 => ?_⟩⟩
    have ss := same_new (o := .tup [.ref bx, .ref hd, .ref rd, .ref bd]) hst
    have s7 := s6.trans ss
    have q7 : StoreAt K (upd H6 st (.tup [.ref bx, .ref hd, .ref rd, .ref bd])) st (emp sizes bk) := ⟨bx, hd, rd, bd, kvs, SqT.of upd_same, s7 _ _ h5, ss _ _ hh6, ss _ _ hr6, ((RD3.tk (TK.of h5')).tk (TK.of sa)).tk (TK.of ss), s7 _ _ h7⟩
    have e7 := ss _ _ e6
    have al7 := ss _ _ al6
    generalize upd H6 st (.tup [.ref bx, .ref hd, .ref rd, .ref bd]) = H7 at *
    have D30 : H D3 = none := s7.free hD3
    refine lc_it (walk_list (K := K) (a := wl) (xs := wxs)) (fun i H' => Same H7 H' ∧ ∃ acc : List V, acc.length = i ∧ H' D3 = some (.lst acc) ∧ ∀ (j : Nat) (x : V) (rows : List Row), acc[j]? = some x → rowss[j]? = some rows → StandAt K H' x rows [])
      ⟨same_new hD3, [], rfl, upd_same, fun j x rows h => (nomatch h)⟩ (fun i H' _ p => SqL.of (p.1 _ _ (s7 _ _ h2))) (fun i x H8 H' hi p y => ?_) (fun H8 p => ?_)
    · obtain ⟨rfl, hx⟩ := y
      obtain ⟨s8, acc, la, d8, each⟩ := p
      obtain ⟨rows, hrow⟩ : ∃ rows, rowss[i]? = some rows := ⟨_, List.getElem?_eq_getElem (h3 ▸ hi)⟩
      obtain ⟨rl, rfl, nb, hR⟩ := h4 i x rows hx hrow
      refine ⟨rfl, ?_⟩
      unfold tYes
      dsimp only
      refine iteT ?_
      refine ⟨_, rfl, z0, fun u hu => ?_⟩
      have su := same_new (o := .tup []) hu
      have s9 := (s7.trans s8).trans su
      refine ⟨rl, u, names, rows, [], rfl, hR.same s9, SqT.of upd_same, ?_, Nat.zero_le _, fun a ha => (nomatch ha), fun y H9 s10 hy => ?_⟩
      · have o := hok rows (List.mem_of_getElem? hrow)
        exact ⟨o.kind, o.name, o.parts, fun r hr v hv H' tk => o.vals r hr v hv H' fun a xs q => tk _ _ (seqT_same s9 q), o.few⟩
      · refine ⟨acc, s10 _ _ (su _ _ d8), ?_, fun b o z => ?_, acc ++ [y], by rw [List.length_append, la]; rfl, upd_same, fun j x' rows' hj hr' => ?_⟩
        · rw [la]
          exact Nat.lt_of_lt_of_le (by omega : i < 100) (small_sz (n := 100) (by decide))
        · rw [upd_ne (ne_of_none z hD3)]
          exact s10 _ _ (su _ _ (s8 _ _ z))
        · have dd := s10 _ _ (su _ _ d8)
          have tk : TK K H9 (upd H9 D3 (.lst (acc ++ [y]))) := tk_lst dd
          by_cases c : j < acc.length
          · rw [List.getElem?_append_left c] at hj
            exact ((each j x' rows' hj hr').tk (TK.of (su.trans s10))).tk tk
          · have z := (List.getElem?_eq_some_iff.mp hj).1
            rw [List.length_append] at z
            have ej : j = acc.length := by
              have : j < acc.length + 1 := z
              omega
            rw [ej, List.getElem?_append_right (Nat.le_refl _), Nat.sub_self] at hj
            obtain rfl := (Option.some.inj (show some y = some x' from hj))
            rw [ej, la] at hr'
            obtain rfl := Option.some.inj (hrow.symm.trans hr')
            exact hy.tk tk
    · obtain ⟨s8, acc, la, d8, each⟩ := p
      refine ⟨z0, fun pl0 hpl0 => ⟨four_sz, fun sx hsx => ?_⟩⟩
      have sp := same_new (o := .lst []) hpl0
      have sq := same_new (o := .tup [.ref st, .ref al, .ref D3, .ref pl0]) hsx
      have S := s8.trans (sp.trans sq)
      have All := s7.trans S
      refine k sx _ All ⟨st, al, D3, pl0, List.replicate rowss.length (.ref e0), acc, [], SqT.of upd_same, q7.same S, ⟨S _ _ al7, fun z => z al0⟩, ⟨sq _ _ (sp _ _ d8), fun z => z D30⟩, ⟨sq _ _ upd_same, fun z => z ((s7.trans s8).free hpl0)⟩, by rw [List.length_map], List.length_replicate, by rw [la, h3], Nat.zero_le _, fun i x ans hx ha => ?_, fun i x rows ans hx hr' ha => ?_, fun a z => (nomatch z), ?_⟩
      · have ea : ans = [] := by
          rw [List.getElem?_map] at ha
          obtain ⟨r, _, e2⟩ := Option.map_eq_some_iff.mp ha
          exact e2.symm
        obtain ⟨hi, ex⟩ := List.getElem?_eq_some_iff.mp hx
        rw [List.getElem_replicate] at ex
        exact ⟨e0, ex.symm, by rw [ea]; exact SqT.of (S _ _ e7)⟩
      · have ea : ans = [] := by
          rw [List.getElem?_map] at ha
          obtain ⟨r, _, e2⟩ := Option.map_eq_some_iff.mp ha
          exact e2.symm
        rw [ea]
        exact (each i x rows hx hr').tk (TK.of (sp.trans sq))
      · rw [List.map_map]
        exact (sum_zero rowss).symm
end
end TW
namespace TW
open PySem PySem.Spec PyProof.Rows L2
theorem cut_to (xs : List V) (k : Nat) (h : k ≤ xs.length) : cutV xs none (some (k : Int)) = xs.take k := by
  unfold cutV
  rw [HT.sIx_nat, HT.sIx_none, List.drop_zero, Nat.min_eq_left h, Nat.sub_zero]
theorem cut_from (xs : List V) (k : Nat) (h : k ≤ xs.length) : cutV xs (some (k : Int)) none = xs.drop k := by
  unfold cutV
  rw [HT.sIx_nat, HT.sIx_none, Nat.min_eq_left h]
  exact List.take_of_length_le (by rw [List.length_drop]; exact Nat.le_refl _)
theorem set_parts {α : Type} (x : α) : ∀ (xs : List α) (k : Nat), k < xs.length → xs.take k ++ [x] ++ xs.drop (k + 1) = xs.set k x
  | [], _, h => absurd h (Nat.not_lt_zero _)
  | _ :: _, 0, _ => rfl
  | a :: l, k + 1, h => congrArg (a :: ·) (set_parts x l k (Nat.lt_of_succ_lt_succ h))
theorem at_set {α : Type} {l : List α} {k i : Nat} {x y : α} (h : (l.set k x)[i]? = some y) : (i = k ∧ y = x ∧ k < l.length) ∨ (i ≠ k ∧ l[i]? = some y) := by
  by_cases c : k = i
  · subst c
    have hk : k < l.length := by
      have z := (List.getElem?_eq_some_iff.mp h).1
      rw [List.length_set] at z
      exact z
    rw [List.getElem?_set_self hk] at h
    exact .inl ⟨rfl, (Option.some.inj h).symm, hk⟩
  · rw [List.getElem?_set_ne c] at h
    exact .inr ⟨fun e => c e.symm, h⟩
theorem sum_set {α : Type} (f : α → Nat) (x : α) : ∀ (l : List α) (k : Nat) (y : α), l[k]? = some y → ((l.set k x).map f).sum + f y = (l.map f).sum + f x
  | [], _, _, h => nomatch h
  | a :: l, 0, y, h => by
    cases h
    rw [List.set_cons_zero, List.map_cons, List.sum_cons, List.map_cons, List.sum_cons]
    omega
  | a :: l, k + 1, y, h => by
    rw [List.set_cons_succ, List.map_cons, List.sum_cons, List.map_cons, List.sum_cons]
    have := sum_set f x l k y h
    omega
/-- a step of work k of a plan -/
def spGoL (K : PySem.W.Frag) (n : Nat) : Sp := fun vs H Q _ => ∃ (pl sx : Addr) (k : Nat) (B1 B2 : Addr → Prop) (rowss : List (List Row)) (sizes : List (Key × V)) (S S' : Sto) (anss : List (List V)) (last : Option V) (rows : List Row) (ans : List V) (r : Row) (a : V), vs = [.ref pl, .ref sx, .int (k : Nat)] ∧ PlanAt K B1 H pl rowss sizes ∧ StateAt K B2 H sx rowss S anss last ∧
  rowss[k]? = some rows ∧ anss[k]? = some ans ∧ rows[ans.length]? = some r ∧ RowsOk K H n S.bk rows ∧ StoOk K H S ∧ rowss.length ≤ 100 ∧ (anss.map List.length).sum < 1000 ∧
  DoM S r.name r.kind (r.parts.map (partV (notesAt rows ans ans.length))) a S' ∧ (∀ x ∈ ans ++ [a], VnS K H n x) ∧
  ∀ s2 H', Same H H' → StateAt K (Old H) H' s2 rowss S' (anss.set k (ans ++ [a])) (some a) → Q (.ref s2) H'
section
variable {P : Program} {w : World} {K : PySem.W.Frag} {mg : Str → Option Value} {base : Heap} {n : Nat}
theorem RowsOk.same {H H' : Hp} {names : List Str} {rows : List Row} (s : Same H H') (o : RowsOk K H n names rows) : RowsOk K H' n names rows := o.tk (TK.of s)
theorem scGoL : FnScope ["_law_plan", "_law_state", "_law_k", "_law_store", "_law_answers", "_law_stands", "_law_steps", "_law_wish_here", "_law_answer", "_law_after"] ["_law_plan", "_law_state", "_law_k"] (defScope sGoL) := ⟨rfl, rfl, rfl, by decide +kernel, rfl, by decide +kernel, by decide +kernel⟩
theorem ok_goL {f fD fS : Addr} {fd fdD fdS : FuncData} (F : Fun K "_law_go" "_law_go" sGoL f fd) (B : Blt mg)
    (GD : FnOk P w K mg base CX0 2 fD fdD ["_law_store", "_law_k", "_law_wish_here"] (spDoL K)) (mD : mg "_law_do" = some (.ref fD)) (kD : PySem.W.keepIn K (.ref fD) = true) (bD : Binds K fdD ["_law_store", "_law_k", "_law_wish_here"] [])
    (GS : FnOk P w K mg base CX0 3 fS fdS ["_law_rows", "_law_answers"] (spStand K n)) (mS : mg "_law_stand" = some (.ref fS)) (kS : PySem.W.keepIn K (.ref fS) = true) (bS : Binds K fdS ["_law_rows", "_law_answers"] []) :
    FnOk P w K mg base CX0 4 f fd ["_law_plan", "_law_state", "_law_k"] (spGoL K n) := by
  refine F.ok scGoL (fun vs H Q E h => ?_) (fun cdv A outer s H vs Q E hr h => ?_)
  · obtain ⟨pl, sx, k, B1, B2, rowss, sizes, S, S', anss, last, rows, ans, r, a, rfl, _⟩ := h
    rfl
  · obtain ⟨pl, sx, kk, B1, B2, rowss, sizes, S, S', anss, last, rows, ans, r, a, rfl, hP, hS, hrow, hans, hr1, ok, so, few, sm, dm, va, k⟩ := h
    have hrD : Room 2 _ := hr.mono (by omega)
    have hrS : Room 3 _ := hr.mono (by omega)
    refine ⟨_, pss_cons (ps_asg (pv 1) (pg_tup (n := 4) rfl (pgs_cons (pg_name (i := 3) scGoL.nd rfl (Or.inl rfl)) (pgs_cons (pg_name (i := 4) scGoL.nd rfl (Or.inl rfl)) (pgs_cons (pg_name (i := 5) scGoL.nd rfl (Or.inl rfl)) (pgs_cons (pg_name (i := 6) scGoL.nd rfl (Or.inl rfl)) pgs_nil))))))
      (pss_cons (ps_set (i := 7) scGoL.nd rfl (.inl rfl) (pe_ix ix_tup (pe_ix ix_tup (pe_ix ix_list (pv 5) (pv 2) (fun _ _ => rfl)) pe_int (fun _ _ => rfl)) pe_int (fun _ _ => rfl)))
      (pss_cons (ps_asg (pe_call GD hrD rfl mD kD bD .nil pass0 (pa_cons (pv 3) (pa_cons (pv 2) (pa_cons (pv 7) pa_nil)))) (pg_tup (n := 2) rfl (pgs_cons (pg_name (i := 8) scGoL.nd rfl (Or.inl rfl)) (pgs_cons (pg_name (i := 9) scGoL.nd rfl (Or.inl rfl)) pgs_nil))))
      (pss_cons (ps_set (i := 4) scGoL.nd rfl (.inl rfl) (pe_op op_cat (pe_op op_cat (pe_slice sl_list (pv 4) po_none (po_some (pv 2))) (pe_lst (pa_cons (pe_op op_catU (pe_ix ix_list (pv 4) (pv 2) (fun _ _ => rfl)) (pe_tup (pa_cons (pv 8) pa_nil))) pa_nil))) (pe_slice sl_list (pv 4) (po_some (pe_op op_add (pv 2) pe_int)) po_none)))
      (pss_cons (ps_set (i := 5) scGoL.nd rfl (.inl rfl) (pe_op op_cat (pe_op op_cat (pe_slice sl_list (pv 5) po_none (po_some (pv 2))) (pe_lst (pa_cons (pe_call GS hrS rfl mS kS bS .nil pass0 (pa_cons (pe_ix ix_list (pe_ix ix_tup (pv 0) pe_int (fun _ _ => rfl)) (pv 2) (fun _ _ => rfl)) (pa_cons (pe_ix ix_list (pv 4) (pv 2) (fun _ _ => rfl)) pa_nil))) pa_nil))) (pe_slice sl_list (pv 5) (po_some (pe_op op_add (pv 2) pe_int)) po_none)))
      (pss_one (ps_ret (pe_tup (pa_cons (pv 9) (pa_cons (pv 4) (pa_cons (pv 5) (pa_cons (pe_op op_cat (pv 6) (pe_lst (pa_cons (pe_tup (pa_cons (pv 2) (pa_cons (pv 7) (pa_cons (pv 8) pa_nil)))) pa_nil))) pa_nil))))))))))), ?_⟩
    obtain ⟨st, al, sl, pls, axs, sxs, pxs, h1, h2, ⟨h3, n3⟩, ⟨h4, n4⟩, ⟨h5, n5⟩, l0, l1, l2, l3, h6, h7, h8, h9⟩ := hS.ex
    obtain ⟨wl, bx, lk, bd, wxs, p1, ⟨p2, m2⟩, p3, p4, _⟩ := hP.ex
    have kl : kk < rowss.length := (List.getElem?_eq_some_iff.mp hrow).1
    obtain ⟨x0, hx0⟩ : ∃ x, sxs[kk]? = some x := ⟨_, List.getElem?_eq_getElem (by omega)⟩
    obtain ⟨y0, hy0⟩ : ∃ x, axs[kk]? = some x := ⟨_, List.getElem?_eq_getElem (by omega)⟩
    obtain ⟨z0, hz0⟩ : ∃ x, wxs[kk]? = some x := ⟨_, List.getElem?_eq_getElem (by omega)⟩
    obtain ⟨rl, rfl, nb, hR⟩ := p4 kk z0 rows hz0 hrow
    obtain ⟨an, rfl, hA⟩ := h6 kk y0 ans hy0 hans
    obtain ⟨t, pp, u, rfl, q1, q2, q3⟩ := (h7 kk x0 rows ans hx0 hrow hans).ex
    have mem := List.mem_of_getElem? hr1
    have lt : ans.length < rows.length := (List.getElem?_eq_some_iff.mp hr1).1
    rcases q3 with ⟨_, wt, r', er, qp, qw⟩ | ⟨eq, _⟩
    case inr => omega
    obtain rfl : r = r' := Option.some.inj (hr1.symm.trans er)
    have ne := (ok.kind r mem []).ne
    rw [rowWish_cell ne.2.2.2.2] at qw
    refine ⟨_, rfl, sx, _, rfl, h1, rfl, _, _, rfl, _, _, rfl, _, _, rfl, _, _, rfl, rfl, ?_⟩
    refine ⟨_, rfl, _, rfl, sl, _, (kk : Nat), _, rfl, rfl, SqL.of h4, atI_nat hx0, t, _, _, _, rfl, rfl, q1, atI_nat (j := 0) rfl, pp, _, _, _, rfl, rfl, qp, atI_nat (j := 1) rfl, ?_⟩
    refine ⟨_, rfl, _, rfl, _, rfl, st, wt, .int (kk : Nat), S, S', r.kind, r.name, _, a, rfl, h2, so, qw, ok.name r mem, dm, fun tt s2 H1 s1 htt hs2 => ?_⟩
    refine ⟨tt, _, rfl, htt, rfl, _, _, rfl, _, _, rfl, rfl, ?_⟩
    have one : 1 ≤ sizeLine := small_sz (n := 1) (by decide)
    -- the answers
    refine ⟨_, rfl, _, rfl, _, rfl, al, axs, rfl, SqL.of (s1 _ _ h3), fun d1 hd1 => ?_⟩
    rw [cut_to _ _ (by omega)]
    have t1 := same_new (o := .lst (axs.take kk)) hd1
    have s2' := s1.trans t1
    have e1 : (upd H1 d1 (.lst (axs.take kk))) d1 = some (.lst (axs.take kk)) := upd_same
    have hs3 := hs2.same t1
    generalize upd H1 d1 (.lst (axs.take kk)) = H2 at *
    refine ⟨_, rfl, _, rfl, al, _, (kk : Nat), _, rfl, rfl, SqL.of (s2' _ _ h3), atI_nat hy0, _, rfl, one, fun e he => ?_⟩
    have t2 := same_new (o := .tup [a]) he
    have ee : (upd H2 e (.tup [a])) e = some (.tup [a]) := upd_same
    have s3 := s2'.trans t2
    have e2 := t2 _ _ e1
    have hs4 := hs3.same t2
    generalize upd H2 e (.tup [a]) = H3 at *
    refine ⟨an, e, ans, [a], rfl, rfl, seqT_same s3 hA, SqT.of ee, ?_, fun an2 H4 t3 ha2 => ⟨one, fun d2 hd2 => ?_⟩⟩
    · exact Nat.le_trans (by have := ok.few; show ans.length + 1 ≤ 1001; omega) (small_sz (n := 1001) (by decide))
    have t4 := same_new (o := .lst [.ref an2]) hd2
    have s4 := (s3.trans t3).trans t4
    have e4 := t4 _ _ (t3 _ _ e2)
    have f4 : (upd H4 d2 (.lst [.ref an2])) d2 = some (.lst [.ref an2]) := upd_same
    have g4 := seqT_same t4 ha2
    have hs5 := hs4.same (t3.trans t4)
    generalize upd H4 d2 (.lst [.ref an2]) = H5 at *
    refine ⟨d1, d2, _, _, rfl, rfl, e4, f4, ?_, fun d3 hd3 => ?_⟩
    · rw [List.length_take]
      exact Nat.le_trans (by show min kk axs.length + 1 ≤ 101; omega) (small_sz (n := 101) (by decide))
    have t5 := same_new (o := .lst (axs.take kk ++ [.ref an2])) hd3
    have e5 : (upd H5 d3 (.lst (axs.take kk ++ [.ref an2]))) d3 = some (.lst (axs.take kk ++ [.ref an2])) := upd_same
    have s5 := s4.trans t5
    have g5 := seqT_same t5 g4
    have hs6 := hs5.same t5
    generalize upd H5 d3 (.lst (axs.take kk ++ [.ref an2])) = H6 at *
    refine ⟨_, rfl, _, rfl, _, _, rfl, rfl, _, rfl, al, axs, rfl, SqL.of (s5 _ _ h3), fun d4 hd4 => ?_⟩
    have kc : ((kk : Nat) : Int) + 1 = ((kk + 1 : Nat) : Int) := by omega
    rw [kc, cut_from _ _ (by omega)]
    have t6 := same_new (o := .lst (axs.drop (kk + 1))) hd4
    have e6 := t6 _ _ e5
    have f6 : (upd H6 d4 (.lst (axs.drop (kk + 1)))) d4 = some (.lst (axs.drop (kk + 1))) := upd_same
    have s6 := s5.trans t6
    have g6 := seqT_same t6 g5
    have hs7 := hs6.same t6
    generalize upd H6 d4 (.lst (axs.drop (kk + 1))) = H7 at *
    refine ⟨d3, d4, _, _, rfl, rfl, e6, f6, ?_, fun al2 hal2 => ?_⟩
    · rw [List.length_append, List.length_take, List.length_drop]
      exact Nat.le_trans (by show min kk axs.length + 1 + (axs.length - (kk + 1)) ≤ 300; omega) (small_sz (n := 300) (by decide))
    rw [set_parts _ _ _ (by omega)]
    have t7 := same_new (o := .lst (axs.set kk (.ref an2))) hal2
    have a7 : (upd H7 al2 (.lst (axs.set kk (.ref an2)))) al2 = some (.lst (axs.set kk (.ref an2))) := upd_same
    have s7 := s6.trans t7
    have g7 := seqT_same t7 g6
    have hs8 := hs7.same t7
    have al0 : H al2 = none := s6.free hal2
    generalize upd H7 al2 (.lst (axs.set kk (.ref an2))) = H8 at *
    -- the stands
    refine ⟨_, rfl, _, rfl, _, rfl, sl, sxs, rfl, SqL.of (s7 _ _ h4), fun c1 hc1 => ?_⟩
    rw [cut_to _ _ (by omega)]
    have t8 := same_new (o := .lst (sxs.take kk)) hc1
    have e8 : (upd H8 c1 (.lst (sxs.take kk))) c1 = some (.lst (sxs.take kk)) := upd_same
    have s8 := s7.trans t8
    have g8 := seqT_same t8 g7
    have a8 := t8 _ _ a7
    have hs9 := hs8.same t8
    generalize upd H8 c1 (.lst (sxs.take kk)) = H9 at *
    refine ⟨_, rfl, pl, _, _, _, rfl, rfl, seqT_same s8 p1, atI_nat (j := 0) rfl, _, rfl, wl, _, (kk : Nat), _, rfl, rfl, SqL.of (s8 _ _ p2), atI_nat hz0, ?_⟩
    refine ⟨_, rfl, _, rfl, al2, _, (kk : Nat), .ref an2, rfl, rfl, SqL.of a8, atI_nat (by rw [List.getElem?_set_self (by omega)]), ?_⟩
    refine ⟨rl, an2, S.bk, rows, ans ++ [a], rfl, hR.same s8, g8, ok.same s8, by rw [List.length_append]; exact lt, fun x hx => fun H' tk => va x hx H' fun a xs q => tk _ _ (seqT_same s8 q), fun y H10 t9 hy => ⟨one, fun c2 hc2 => ?_⟩⟩
    have t10 := same_new (o := .lst [y]) hc2
    have s10 := (s8.trans t9).trans t10
    have e10 := t10 _ _ (t9 _ _ e8)
    have f10 : (upd H10 c2 (.lst [y])) c2 = some (.lst [y]) := upd_same
    have y10 := hy.tk (TK.of t10)
    have g10 := seqT_same (t9.trans t10) g8
    have a10 := (t9.trans t10) _ _ a8
    have hs11 := hs9.same (t9.trans t10)
    generalize upd H10 c2 (.lst [y]) = H11 at *
    refine ⟨c1, c2, _, _, rfl, rfl, e10, f10, ?_, fun c3 hc3 => ?_⟩
    · rw [List.length_take]
      exact Nat.le_trans (by show min kk sxs.length + 1 ≤ 101; omega) (small_sz (n := 101) (by decide))
    have t11 := same_new (o := .lst (sxs.take kk ++ [y])) hc3
    have e11 : (upd H11 c3 (.lst (sxs.take kk ++ [y]))) c3 = some (.lst (sxs.take kk ++ [y])) := upd_same
    have s11 := s10.trans t11
    have y11 := y10.tk (TK.of t11)
    have g11 := seqT_same t11 g10
    have a11 := t11 _ _ a10
    have hs12 := hs11.same t11
    generalize upd H11 c3 (.lst (sxs.take kk ++ [y])) = H12 at *
    refine ⟨_, rfl, _, rfl, _, _, rfl, rfl, _, rfl, sl, sxs, rfl, SqL.of (s11 _ _ h4), fun c4 hc4 => ?_⟩
    rw [kc, cut_from _ _ (by omega)]
    have t12 := same_new (o := .lst (sxs.drop (kk + 1))) hc4
    have e12 := t12 _ _ e11
    have f12 : (upd H12 c4 (.lst (sxs.drop (kk + 1)))) c4 = some (.lst (sxs.drop (kk + 1))) := upd_same
    have s12 := s11.trans t12
    have y12 := y11.tk (TK.of t12)
    have g12 := seqT_same t12 g11
    have a12 := t12 _ _ a11
    have hs13 := hs12.same t12
    generalize upd H12 c4 (.lst (sxs.drop (kk + 1))) = H13 at *
    refine ⟨c3, c4, _, _, rfl, rfl, e12, f12, ?_, fun sl2 hsl2 => ?_⟩
    · rw [List.length_append, List.length_take, List.length_drop]
      exact Nat.le_trans (by show min kk sxs.length + 1 + (sxs.length - (kk + 1)) ≤ 300; omega) (small_sz (n := 300) (by decide))
    rw [set_parts _ _ _ (by omega)]
    have t13 := same_new (o := .lst (sxs.set kk y)) hsl2
    have b13 : (upd H13 sl2 (.lst (sxs.set kk y))) sl2 = some (.lst (sxs.set kk y)) := upd_same
    have s13 := s12.trans t13
    have y13 := y12.tk (TK.of t13)
    have g13 := seqT_same t13 g12
    have a13 := t13 _ _ a12
    have hs14 := hs13.same t13
    have sl0 : H sl2 = none := s12.free hsl2
    generalize upd H13 sl2 (.lst (sxs.set kk y)) = H14 at *
    -- the steps
    refine ⟨_, rfl, _, rfl, _, rfl, _, rfl, _, rfl, _, rfl, _, rfl, small_sz (n := 3) (by decide), fun tu htu => ⟨one, fun w1 hw1 => ?_⟩⟩
    have t14 := same_new (o := .tup [.int (kk : Nat), .ref wt, a]) htu
    have t15 := same_new (o := .lst [.ref tu]) hw1
    have u15 := t15 _ _ (upd_same (H := H14) (a := tu) (o := .tup [.int (kk : Nat), .ref wt, a]))
    have w15 : (upd (upd H14 tu (.tup [.int (kk : Nat), .ref wt, a])) w1 (.lst [.ref tu])) w1 = some (.lst [.ref tu]) := upd_same
    have tt15 := t14.trans t15
    have s15 := s13.trans tt15
    generalize upd (upd H14 tu (.tup [.int (kk : Nat), .ref wt, a])) w1 (.lst [.ref tu]) = H15 at *
    have ls := sum_set List.length (ans ++ [a]) anss kk ans hans
    have la : (ans ++ [a]).length = ans.length + 1 := by rw [List.length_append]; rfl
    refine ⟨pls, w1, pxs, [.ref tu], rfl, rfl, s15 _ _ h5, w15, ?_, fun pl2 hpl2 => ⟨four_sz, fun sx2 hsx2 => ?_⟩⟩
    · exact Nat.le_trans (by show pxs.length + 1 ≤ 1001; omega) (small_sz (n := 1001) (by decide))
    have t16 := same_new (o := .lst (pxs ++ [.ref tu])) hpl2
    have t17 := same_new (o := .tup [.ref s2, .ref al2, .ref sl2, .ref pl2]) hsx2
    have pl0 : H pl2 = none := s15.free hpl2
    have S := tt15.trans (t16.trans t17)
    have All := s13.trans S
    refine k sx2 _ All ⟨s2, al2, sl2, pl2, axs.set kk (.ref an2), sxs.set kk y, pxs ++ [.ref tu], SqT.of upd_same, hs14.same S, ⟨S _ _ a13, fun z => z al0⟩, ⟨S _ _ b13, fun z => z sl0⟩, ⟨t17 _ _ upd_same, fun z => z pl0⟩, by rw [List.length_set]; exact l0, by rw [List.length_set]; exact l1, by rw [List.length_set]; exact l2, ?_, fun i x an' hx ha => ?_, fun i x rows' an' hx hr' ha => ?_, fun a' z => ?_, ?_⟩
    · rw [List.length_append]
      show pxs.length + 1 ≤ 1000
      omega
    · rcases at_set ha with ⟨rfl, rfl, _⟩ | ⟨ne, ha⟩
      · rcases at_set hx with ⟨_, rfl, _⟩ | ⟨z, _⟩
        · exact ⟨an2, rfl, seqT_same S g13⟩
        · exact absurd rfl z
      · rcases at_set hx with ⟨z, _⟩ | ⟨_, hx⟩
        · exact absurd z ne
        · obtain ⟨a', e1, e2⟩ := h6 i x an' hx ha
          exact ⟨a', e1, seqT_same All e2⟩
    · rcases at_set ha with ⟨rfl, rfl, _⟩ | ⟨ne, ha⟩
      · rcases at_set hx with ⟨_, rfl, _⟩ | ⟨z, _⟩
        · obtain rfl : rows = rows' := Option.some.inj (hrow.symm.trans hr')
          exact y13.tk (TK.of S)
        · exact absurd rfl z
      · rcases at_set hx with ⟨z, _⟩ | ⟨_, hx⟩
        · exact absurd z ne
        · exact (h7 i x rows' an' hx hr' ha).tk (TK.of All)
    · obtain rfl := Option.some.inj z
      exact ⟨tu, _, _, by rw [List.getLast?_append]; rfl, SqT.of ((t16.trans t17) _ _ u15)⟩
    · rw [List.length_append]
      show pxs.length + 1 = _
      omega
end
end TW
namespace TW
open PySem PySem.Spec PyProof.Rows L2
/-- pairs of the names and what is told of them -/
def PairsTo (kvs : List (Key × V)) (ys : List Str) (H : Hp) (xs : List V) : Prop := ∀ (i : Nat) (x : V) (nm : Str), xs[i]? = some x → ys[i]? = some nm → ∃ t v, x = .ref t ∧ H t = some (.tup [.str nm, v]) ∧ valV kvs (Sum.inr nm) = some v
theorem PairsTo.same {kvs : List (Key × V)} {ys : List Str} {H H' : Hp} {xs : List V} (e : Same H H') (h : PairsTo kvs ys H xs) : PairsTo kvs ys H' xs := fun i x nm h1 h2 => by
  obtain ⟨t, v, e1, e2, e3⟩ := h i x nm h1 h2
  exact ⟨t, v, e1, e _ _ e2, e3⟩
def PairsIn (kvs : List (Key × V)) (ks : List Str) (H : Hp) (xs : List V) : Prop := ∃ ys : List Str, ys.Perm ks ∧ sortedS ys = true ∧ xs.length = ys.length ∧ PairsTo kvs ys H xs
theorem PairsIn.same {kvs : List (Key × V)} {ks : List Str} {H H' : Hp} {xs : List V} (e : Same H H') (h : PairsIn kvs ks H xs) : PairsIn kvs ks H' xs := by
  obtain ⟨ys, h1, h2, h3, h4⟩ := h
  exact ⟨ys, h1, h2, h3, h4.same e⟩
def spPairs2 : Sp := fun vs H Q _ => ∃ (d : Addr) (kvs : List (Key × V)) (ks : List Str), vs = [.ref d] ∧ H d = some (.dK kvs) ∧ kvs.map (·.1) = ks.map Sum.inr ∧ ks.length < 64 ∧ ∀ (t : Addr) (H' : Hp) (xs : List V), Same H H' → H' t = some (.tup xs) → PairsIn kvs ks H' xs → Q (.ref t) H'
def spOutcome2 (K : PySem.W.Frag) (CR CT CP : Addr) : Sp := fun vs H Q _ => ∃ (r : Addr) (R : RS) (k1 k2 k3 : List Str), vs = [.ref r] ∧ RunAt K CR CT CP H r R ∧ R.places.length ≤ 1000 ∧ R.T.cells.map (·.1) = k1.map Sum.inr ∧ k1.length < 64 ∧ R.T.holders.map (·.1) = k2.map Sum.inr ∧ k2.length < 64 ∧ R.T.rows.map (·.1) = k3.map Sum.inr ∧ k3.length < 64 ∧
  ∀ (t e a b c ww : Addr) (H' : Hp) (xs ys zs : List V), Same H H' → H' t = some (.tup [.ref e, .ref a, .ref b, .ref c, .ref ww]) → H' e = some (.tup (R.places.map PS.fin)) → H' ww = some (.tup (R.places.map fun x => V.ref x.tw)) →
    H' a = some (.tup xs) → PairsIn R.T.cells k1 H' xs → H' b = some (.tup ys) → PairsIn R.T.holders k2 H' ys → H' c = some (.tup zs) → PairsIn R.T.rows k3 H' zs → Q (.ref t) H'
section
variable {P : Program} {w : World} {K : PySem.W.Frag} {mg : Str → Option Value} {base : Heap} {CR CT CP : Addr} {n : Nat}
theorem scPairs2 : FnScope ["table", "name"] ["table"] (defScope sPairs) := ⟨rfl, rfl, rfl, by decide +kernel, rfl, by decide +kernel, by decide +kernel⟩
theorem ok_pairs2 {f : Addr} {fd : FuncData} (F : Fun K "in_pairs" "in_pairs" sPairs f fd) (B : Blt mg) : FnOk P w K mg base CX0 2 f fd ["table"] spPairs2 := by
  refine F.ok scPairs2 (fun vs H Q E h => ?_) (fun cdv A outer s H vs Q E hr h => ?_)
  · obtain ⟨d, kvs, ks, rfl, _⟩ := h
    rfl
  · obtain ⟨d, kvs, ks, rfl, hd, hk, few, k⟩ := h
    refine ⟨_, pss_one (ps_ret (pe_callTy call_tuple_of (by rfl) B.tuple (by decide +kernel) (pa_cons (pe_lc (own := [("name", 1)]) rfl scPairs2.nd (pi_list (pe_callB (call_sortedD rfl) (by rfl) B.sorted (by decide +kernel) (pa_cons (pv 0) pa_nil))) (blkOk_by (N := ["table", "name"]) (sc := defScope sPairs) (by decide +kernel))
      (fun _ _ _ _ _ => pg_name (i := 1) scPairs2.nd rfl (Or.inl rfl)) (fun _ _ _ _ _ => pts_nil) (te := tTup (tCons (tVar 1) (tCons (tDGet (tVar 0) (tVar 1)) tNil))) (fun _ _ _ _ _ => by exact pe_tup (pa_cons (pv 1) (pa_cons (pe_dget (hu_of hr) (pv 0) (pv 1) (fun _ _ => rfl)) pa_nil)))) pa_nil))), ?_⟩
    refine ⟨_, rfl, d, kvs, ks, rfl, .inl hd, hk, few, fun ys p perm srt hp => ?_⟩
    refine ⟨p, rfl, ⟨_, SqL.of upd_same⟩, fun D hD => ?_⟩
    have s1 := same_new (o := .lst (ys.map V.str)) hp
    have s2 := same_new (o := .lst []) hD
    refine lc_list (K := K) (a := p) (xs := ys.map V.str) (fun i H' => Same (upd H p (.lst (ys.map V.str))) H' ∧ ∃ acc, acc.length = i ∧ H' D = some (.lst acc) ∧ PairsTo kvs ys H' acc) ⟨s2, [], rfl, upd_same, fun i x nm h => (nomatch h)⟩ (fun i H' _ z => SqL.of (z.1 _ _ upd_same)) (fun i x H' e z => ?_) (fun H1 z => ?_)
    · obtain ⟨sm, acc, la, hd1, each⟩ := z
      obtain ⟨nm, hn, rfl⟩ : ∃ nm, ys[i]? = some nm ∧ x = V.str nm := by
        rw [List.getElem?_map] at e
        obtain ⟨z, h1, h2⟩ := Option.map_eq_some_iff.mp e
        exact ⟨z, h1, h2.symm⟩
      have li := (List.getElem?_eq_some_iff.mp hn).1
      have ly : ys.length < 64 := by rw [perm.length_eq]; exact few
      obtain ⟨v, hv⟩ : ∃ v, valV kvs (Sum.inr nm) = some v := valV_mem (by rw [hk]; exact List.mem_map.mpr ⟨nm, perm.mem_iff.mp (List.mem_of_getElem? hn), rfl⟩)
      refine ⟨rfl, ?_⟩
      unfold tYes
      dsimp only
      refine iteT ?_
      refine ⟨_, rfl, _, rfl, _, rfl, d, v, rfl, ?_, two_sz, fun t ht => ?_⟩
      · have z := DGet.k (k := Sum.inr nm) (sm _ _ (s1 _ _ hd))
        rw [hv] at z
        exact z
      · have st := same_new (o := .tup [.str nm, v]) ht
        refine ⟨acc, st _ _ hd1, ?_, fun b o e => ?_, acc ++ [.ref t], by rw [List.length_append, la]; rfl, upd_same, fun j x' nm' hj hn' => ?_⟩
        · rw [la]
          exact Nat.lt_of_lt_of_le (Nat.lt_trans li ly) (small_sz (n := 64) (by decide))
        · rw [upd_ne (ne_of_none e hD)]
          exact st _ _ (sm _ _ e)
        · by_cases c : j < acc.length
          · rw [List.getElem?_append_left c] at hj
            obtain ⟨t', v', e1, e2, e3⟩ := each j x' nm' hj hn'
            exact ⟨t', v', e1, (upd_ne (ne_of (st _ _ e2) (st _ _ hd1) (by intro z; cases z))).trans (st _ _ e2), e3⟩
          · have z := (List.getElem?_eq_some_iff.mp hj).1
            rw [List.length_append] at z
            have ej : j = acc.length := by
              have : j < acc.length + 1 := z
              omega
            rw [ej, List.getElem?_append_right (Nat.le_refl _), Nat.sub_self] at hj
            obtain rfl := (Option.some.inj (show some (V.ref t) = some x' from hj)).symm
            rw [ej, la] at hn'
            obtain rfl := Option.some.inj (hn.symm.trans hn')
            exact ⟨t, v, rfl, (upd_ne (fun z => by rw [z, hd1] at ht; cases ht)).trans upd_same, hv⟩
    · obtain ⟨sm, acc, la, hd1, each⟩ := z
      refine ⟨D, acc, rfl, .inl ⟨SqL.of hd1, fun t ht => k t _ acc ((s1.trans sm).trans (same_new ht)) upd_same ⟨ys, perm, srt, by rw [la, List.length_map], PairsTo.same (same_new ht) each⟩⟩⟩
theorem sc_outcome2 : FnScope ["self", "place", "words", "things"] ["self"] (defScope s_outcome) := ⟨rfl, rfl, rfl, by decide +kernel, rfl, by decide +kernel, by decide +kernel⟩
theorem ok_outcome2 {f fE fP : Addr} {fd fdE fdP : FuncData} (F : Fun K "outcome" "Run.outcome" s_outcome f fd) (B : Blt mg) (X : RTxt K CR) (XP : PTxt K CP) (XT : TTxt K CT) (GE : FnOk P w K mg base CX0 1 fE fdE ["self"] (spEnds K CR CT CP)) (hE : Meth K CR "ends" fE) (bE : Binds K fdE ["self"] [])
    (GP : FnOk P w K mg base CX0 2 fP fdP ["table"] spPairs2) (mP : mg "in_pairs" = some (.ref fP)) (kP : PySem.W.keepIn K (.ref fP) = true) (bP : Binds K fdP ["table"] []) : FnOk P w K mg base CX0 3 f fd ["self"] (spOutcome2 K CR CT CP) := by
  refine F.ok sc_outcome2 (fun vs H Q E h => ?_) (fun cdv A outer s H vs Q E hr h => ?_)
  · obtain ⟨r, R, k1, k2, k3, rfl, _⟩ := h
    rfl
  · obtain ⟨r, R, k1, k2, k3, rfl, hR, few, c1, l1, c2, l2, c3, l3, hq⟩ := h
    have hr1 : Room 1 _ := hr.mono (by omega)
    refine ⟨_, pss_cons (ps_set (i := 2) sc_outcome2.nd rfl (.inl rfl) (pe_callTy call_tuple_of (by rfl) B.tuple (by decide +kernel) (pa_cons (pe_lc (own := [("place", 1)]) rfl sc_outcome2.nd (pi_list (pe_fld (pv 0) rfl)) (blkOk_by (N := ["self", "place", "words", "things"]) (sc := defScope s_outcome) (by decide +kernel))
        (fun _ _ _ _ _ => pg_name (i := 1) sc_outcome2.nd rfl (Or.inl rfl)) (fun _ _ _ _ _ => pts_nil) (te := tFld K (tVar 1) "words") (fun _ _ _ _ _ => by exact pe_fld (pv 1) rfl)) pa_nil)))
      (pss_cons (ps_set (i := 3) sc_outcome2.nd rfl (.inl rfl) (pe_fld (pv 0) rfl))
      (pss_one (ps_ret (pe_tup (pa_cons (pe_meth0 (pv 0) X.cl hE GE hr1 bE .nil pass0) (pa_cons (pe_call GP hr rfl mP kP bP .nil pass0 (pa_cons (pe_fld (pv 3) rfl) pa_nil)) (pa_cons (pe_call GP hr rfl mP kP bP .nil pass0 (pa_cons (pe_fld (pv 3) rfl) pa_nil))
        (pa_cons (pe_call GP hr rfl mP kP bP .nil pass0 (pa_cons (pe_fld (pv 3) rfl) pa_nil)) (pa_cons (pv 2) pa_nil))))))))), ?_⟩
    have nE : (rF (.ref R.sh) (.ref R.th) (.ref R.pl) (.ref R.dn)).lookup ("ends" : Str) = none := rF_no (by decide +kernel) (by decide +kernel) (by decide +kernel) (by decide +kernel)
    refine ⟨_, rfl, r, CR, R.dx, _, _, rfl, hR.ob, X.cl, X.places, rF_get2, R.pl, rfl, ⟨_, SqL.of hR.p⟩, fun D hD => ?_⟩
    refine lc_list (K := K) (a := R.pl) (xs := R.places.map fun x => V.ref x.p) (fun i H' => Same H H' ∧ H' D = some (.lst ((R.places.take i).map fun x => V.ref x.tw))) ⟨same_new hD, upd_same⟩ (fun i H' _ p => SqL.of (p.1 _ _ hR.p)) (fun i x H' e p => ?_) (fun H1 p => ?_)
    · rw [List.getElem?_map] at e
      cases q : R.places[i]? with
      | none =>
        rw [q] at e
        cases e
      | some y =>
        rw [q] at e
        obtain rfl := (Option.some.inj e).symm
        have hP := (hR.e y (List.mem_of_getElem? q)).same p.1
        refine ⟨rfl, ?_⟩
        unfold tYes
        dsimp only
        refine iteT ?_
        refine ⟨_, rfl, y.p, CP, y.dp, _, _, rfl, hP.ob, XP.cl, XP.words, pF_get3, _, p.2, ?_, fun b o z => ?_, ?_⟩
        · rw [List.length_map, List.length_take]
          exact Nat.lt_of_lt_of_le (Nat.lt_succ_of_le (Nat.le_trans (Nat.min_le_right _ _) few)) (small_sz (by decide))
        · rw [upd_ne (ne_of_none z hD)]
          exact p.1 b o z
        · rw [upd_same, take_one q, List.map_append]
          rfl
    · have z := p.2
      rw [List.length_map, List.take_length] at z
      refine ⟨D, _, rfl, .inl ⟨SqL.of z, fun tw htw => ?_⟩⟩
      have s2 := p.1.trans (same_new (o := .tup (R.places.map fun x => V.ref x.tw)) htw)
      have R2 := hR.same s2
      refine ⟨_, rfl, r, CR, R.dx, _, _, rfl, R2.ob, X.cl, X.things, rF_get1, ?_⟩
      refine ⟨_, rfl, r, R.dx, _, rfl, R2.ob, nE, r, R, rfl, R2, few, fun te H3 hte s3 e3 => ?_⟩
      have T3 := R2.t.same s3
      refine ⟨_, rfl, R.th, CT, R.T.dx, _, _, rfl, T3.ob, XT.cl, XT.cells, tF_get0, R.T.cd, R.T.cells, k1, rfl, T3.c, c1, l1, fun ta H4 xs s4 e4 x4 => ?_⟩
      have T4 := T3.same s4
      refine ⟨_, rfl, R.th, CT, R.T.dx, _, _, rfl, T4.ob, XT.cl, XT.holders, tF_get1, R.T.hd, R.T.holders, k2, rfl, T4.h, c2, l2, fun tb H5 ys s5 e5 x5 => ?_⟩
      have T5 := T4.same s5
      refine ⟨_, rfl, R.th, CT, R.T.dx, _, _, rfl, T5.ob, XT.cl, XT.rows, tF_get2, R.T.rd, R.T.rows, k3, rfl, T5.r, c3, l3, fun tc H6 zs s6 e6 x6 => ?_⟩
      have s36 := (s4.trans s5).trans s6
      refine ⟨_, rfl, small_sz (n := 5) (by decide), fun t ht => ?_⟩
      have st := same_new (o := .tup [.ref te, .ref ta, .ref tb, .ref tc, .ref tw]) ht
      exact hq t te ta tb tc tw _ xs ys zs ((((s2.trans s3).trans s36)).trans st) upd_same (st _ _ (s36 _ _ e3)) (st _ _ (s36 _ _ (s3 _ _ upd_same))) (st _ _ (s6 _ _ (s5 _ _ e4))) (x4.same ((s5.trans s6).trans st)) (st _ _ (s6 _ _ e5)) (x5.same (s6.trans st)) (st _ _ e6) (x6.same st)
end
end TW
namespace TW
open PySem PySem.Spec PyProof.Rows L2
def rTupOf (K : PySem.W.Frag) : List V → Hp → VK → Prop := fun xs H Q => ∃ p ys, xs = [V.ref p] ∧ ((SqL K H p ys ∧ ∀ (l : Addr), H l = none → Q (V.ref l) (upd H l (HO.tup ys))) ∨ SqT K H p ys ∧ Q (V.ref p) H)
def rSrt : List V → Hp → VK → Prop := fun xs H Q => ∃ a kvs ks, xs = [V.ref a] ∧ Rd H a (HO.dK kvs) ∧ List.map (fun x : Key × V => x.fst) kvs = List.map Sum.inr ks ∧ ks.length < 64 ∧
  ∀ (ys : List Str) (p : Addr), ys.Perm ks → sortedS ys = true → H p = none → Q (V.ref p) (upd H p (HO.lst (List.map V.str ys)))
theorem call_tupOf {X : Cx} : CallR X (Value.type "tuple") (rTupOf X.K) := call_tuple_of
theorem call_srt {X : Cx} (h : X.calm = true) : CallR X (Value.builtin "sorted") rSrt := call_sortedD h
theorem yesI {σ : L2.St} {H : Hp} {k : Bool → Hp → Prop} (h : k true H) : tYes σ H k := h
/-- how the works stand, in the end or not -/
def EndsTo (K : PySem.W.Frag) (H : Hp) (rowss : List (List Row)) (anss : List (List V)) (es : List V) : Prop := es.length = rowss.length ∧ ∀ (i : Nat) (e : V) (rows : List Row) (ans : List V), es[i]? = some e → rowss[i]? = some rows → anss[i]? = some ans → (ans.length < rows.length → e = .non) ∧ (ans.length = rows.length → ∃ p, e = .ref p ∧ SqT K H p [.str "told", .non])
theorem EndsTo.tk {K : PySem.W.Frag} {H H' : Hp} {rowss : List (List Row)} {anss : List (List V)} {es : List V} (t : TK K H H') (h : EndsTo K H rowss anss es) : EndsTo K H' rowss anss es :=
  ⟨h.1, fun i e rows ans a b c => ⟨(h.2 i e rows ans a b c).1, fun z => by
    obtain ⟨p, e1, e2⟩ := (h.2 i e rows ans a b c).2 z
    exact ⟨p, e1, t _ _ e2⟩⟩⟩
def SaidTo (K : PySem.W.Frag) (H : Hp) (ws : List V) : Prop := ∀ (i : Nat) (x : V), ws[i]? = some x → ∃ u, x = .ref u ∧ SqT K H u []
theorem SaidTo.tk {K : PySem.W.Frag} {H H' : Hp} {ws : List V} (t : TK K H H') (h : SaidTo K H ws) : SaidTo K H' ws := fun i x e => by
  obtain ⟨u, e1, e2⟩ := h i x e
  exact ⟨u, e1, t _ _ e2⟩
/-- belts told in pairs -/
def BeltsIn (K : PySem.W.Frag) (H : Hp) (bk : List Str) (bc : Str → List V) (xs : List V) : Prop := ∃ ys : List Str, ys.Perm bk ∧ sortedS ys = true ∧ xs.length = ys.length ∧ ∀ (i : Nat) (x : V) (nm : Str), xs[i]? = some x → ys[i]? = some nm → ∃ t a, x = .ref t ∧ SqT K H t [.str nm, .ref a] ∧ SqT K H a (bc nm)
theorem BeltsIn.tk {K : PySem.W.Frag} {H H' : Hp} {bk : List Str} {bc : Str → List V} {xs : List V} (t : TK K H H') (h : BeltsIn K H bk bc xs) : BeltsIn K H' bk bc xs := by
  obtain ⟨ys, h1, h2, h3, h4⟩ := h
  exact ⟨ys, h1, h2, h3, fun i x nm a b => by
    obtain ⟨u, v, e1, e2, e3⟩ := h4 i x nm a b
    exact ⟨u, v, e1, t _ _ e2, t _ _ e3⟩⟩
theorem belts_of {K : PySem.W.Frag} {H : Hp} {kvs : List (Key × V)} {bk : List Str} {bc : Str → List V} {xs : List V} (h : PairsIn kvs bk H xs) (r : RowsD K H kvs bk bc) : BeltsIn K H bk bc xs := by
  obtain ⟨ys, h1, h2, h3, h4⟩ := h
  refine ⟨ys, h1, h2, h3, fun i x nm a b => ?_⟩
  obtain ⟨t, v, e1, e2, e3⟩ := h4 i x nm a b
  obtain ⟨u, e4, e5⟩ := r.at_ nm (h1.mem_iff.mp (List.mem_of_getElem? b))
  rw [e3] at e4
  cases e4
  exact ⟨t, u, e1, SqT.of e2, e5⟩
def spOutL (K : PySem.W.Frag) : Sp := fun vs H Q _ => ∃ (sx : Addr) (B : Addr → Prop) (rowss : List (List Row)) (S : Sto) (anss : List (List V)) (last : Option V), vs = [.ref sx] ∧ StateAt K B H sx rowss S anss last ∧ rowss.length ≤ 100 ∧ (∀ (i : Nat) (rows : List Row) (ans : List V), rowss[i]? = some rows → anss[i]? = some ans → ans.length ≤ rows.length) ∧ S.bk.length < 64 ∧
  ∀ (t e a b c ww : Addr) (H' : Hp) (es xs ws : List V), Same H H' → SqT K H' t [.ref e, .ref a, .ref b, .ref c, .ref ww] → SqT K H' e es → EndsTo K H' rowss anss es → SqT K H' a [] → SqT K H' b [] → SqT K H' c xs → BeltsIn K H' S.bk S.bc xs → SqT K H' ww ws → ws.length = rowss.length → SaidTo K H' ws → Q (.ref t) H'
section
variable {P : Program} {w : World} {K : PySem.W.Frag} {mg : Str → Option Value} {base : Heap} {n : Nat}
/-- the scope of the comprehension over the things -/
abbrev outC : Scope := { kind := .function, names := [(".0", .local), ("_law_part", .cell), ("tuple", .globalImplicit), ("sorted", .globalImplicit)], isGenerator := false, isCoroutine := false }
abbrev NOut : List Str := ["_law_state", "_law_boxes", "_law_holders", "_law_bands", "_law_sizes", "_law_answers", "_law_stands", "_law_steps", "_law_ends", "_law_stand_here", "_law_things", "_law_part", "_law_name"]
theorem scOutL : FnScope NOut ["_law_state"] (defScope sOutL) := ⟨rfl, rfl, rfl, by decide +kernel, rfl, by decide +kernel, by decide +kernel⟩
theorem ok_outL {f : Addr} {fd : FuncData} (F : Fun K "_law_outcome" "_law_outcome" sOutL f fd) (B : Blt mg) : FnOk P w K mg base CX0 4 f fd ["_law_state"] (spOutL K) := by
  refine F.ok scOutL (fun vs H Q E h => ?_) (fun cdv A outer s H vs Q E hr h => ?_)
  · obtain ⟨sx, Bn, rowss, S, anss, last, rfl, _⟩ := h
    rfl
  · obtain ⟨sx, Bn, rowss, S, anss, last, rfl, hS, few, le, lk, k⟩ := h
    have hu := hu_of hr
    refine ⟨_, pss_cons (ps_asg (pv 0) (pg_tup (n := 4) rfl (pgs_cons (pg_tup (n := 4) rfl (pgs_cons (pg_name (i := 1) scOutL.nd rfl (Or.inl rfl)) (pgs_cons (pg_name (i := 2) scOutL.nd rfl (Or.inl rfl)) (pgs_cons (pg_name (i := 3) scOutL.nd rfl (Or.inl rfl)) (pgs_cons (pg_name (i := 4) scOutL.nd rfl (Or.inl rfl)) pgs_nil)))))
        (pgs_cons (pg_name (i := 5) scOutL.nd rfl (Or.inl rfl)) (pgs_cons (pg_name (i := 6) scOutL.nd rfl (Or.inl rfl)) (pgs_cons (pg_name (i := 7) scOutL.nd rfl (Or.inl rfl)) pgs_nil))))))
      (pss_cons (ps_set (i := 8) scOutL.nd rfl (.inl rfl) (pe_callTy call_tuple_of (by rfl) B.tuple (by decide +kernel) (pa_cons (pe_lc (own := [("_law_stand_here", 9)]) rfl scOutL.nd (pi_list (pv 6)) (blkOk_by (N := NOut) (sc := defScope sOutL) (by decide +kernel))
          (fun _ _ _ _ _ => pg_name (i := 9) scOutL.nd rfl (Or.inl rfl)) (fun _ _ _ _ _ => pts_nil) (te := tIf (tTest (tOp rEq (tIx K (tIx K (tVar 9) (tC (.int 0))) (tC (.int 0))) (tC (.str "wish")))) (tC .non) (tIx K (tVar 9) (tC (.int 0))))
          (fun _ _ _ _ _ => by exact pe_ifExp (pt_cmpR op_eq (pe_ix ix_tup (pe_ix ix_tup (pv 9) pe_int (fun _ _ => rfl)) pe_int (fun _ _ => rfl)) pe_str (nomark _)) pe_non (pe_ix ix_tup (pv 9) pe_int (fun _ _ => rfl)))) pa_nil)))
      (pss_cons (ps_setLc (i := 10) (own := [("_law_part", 11)]) rfl scOutL.nd rfl rfl (by rfl) (pi_tup (pe_tup (pa_cons (pv 1) (pa_cons (pv 2) (pa_cons (pv 3) pa_nil))))) (blkOk_by (N := NOut) (sc := defScope sOutL) (by decide +kernel))
          (fun _ _ _ _ _ => pg_name (i := 11) scOutL.nd rfl (Or.inr rfl)) (fun _ _ _ _ _ => pts_nil)
          (te := tCB (rTupOf K) (tCons (tLc (iList K (tCB rSrt (tCons (tVar 11) tNil))) (gName 12) tYes (tTup (tCons (tVar 12) (tCons (tDGet (tVar 11) (tVar 12)) tNil))) [12]) tNil))
          (fun _ _ _ _ _ => by exact pe_callTy call_tupOf (by rfl) B.tuple (by decide +kernel) (pa_cons (pe_lc (own := [("_law_name", 12)]) rfl scOutL.nd (pi_list (pe_callB (call_srt rfl) (by rfl) B.sorted (by decide +kernel) (pa_cons (pv 11) pa_nil))) (blkOk_by (N := NOut) (sc := outC) (by decide +kernel))
            (fun _ _ _ _ _ => pg_name (i := 12) scOutL.nd rfl (Or.inl rfl)) (fun _ _ _ _ _ => pts_nil) (fun _ _ _ _ _ => by exact pe_tup (pa_cons (pv 12) (pa_cons (pe_dget hu (pv 11) (pv 12) (fun _ _ => rfl)) pa_nil)))) pa_nil)))
      (pss_one (ps_ret (pe_tup (pa_cons (pv 8) (pa_cons (pe_ix ix_list (pv 10) pe_int (fun _ _ => rfl)) (pa_cons (pe_ix ix_list (pv 10) pe_int (fun _ _ => rfl)) (pa_cons (pe_ix ix_list (pv 10) pe_int (fun _ _ => rfl)) (pa_cons
        (pe_callTy call_tuple_of (by rfl) B.tuple (by decide +kernel) (pa_cons (pe_lc (own := [("_law_stand_here", 9)]) rfl scOutL.nd (pi_list (pv 6)) (blkOk_by (N := NOut) (sc := defScope sOutL) (by decide +kernel))
          (fun _ _ _ _ _ => pg_name (i := 9) scOutL.nd rfl (Or.inl rfl)) (fun _ _ _ _ _ => pts_nil) (te := tIx K (tVar 9) (tC (.int 1))) (fun _ _ _ _ _ => by exact pe_ix ix_tup (pv 9) pe_int (fun _ _ => rfl))) pa_nil)) pa_nil)))))))))), ?_⟩
    obtain ⟨st, al, sl, pls, axs, sxs, pxs, h1, h2, ⟨h3, n3⟩, ⟨h4, n4⟩, ⟨h5, n5⟩, l0, l1, l2, l3, h6, h7, h8, h9⟩ := hS.ex
    obtain ⟨bx, hx, rx, zx, rk, q1, q2, q3, q4, q5, q6⟩ := h2.ex
    refine ⟨_, rfl, sx, _, rfl, h1, rfl, _, _, rfl, st, _, rfl, q1, rfl, _, _, rfl, _, _, rfl, _, _, rfl, _, _, rfl, rfl, _, _, rfl, _, _, rfl, _, _, rfl, rfl, ?_⟩
    have small : ∀ {i : Nat}, i ≤ 200 → i < sizeLine := fun h => Nat.lt_of_lt_of_le (Nat.lt_succ_of_le h) (small_sz (n := 201) (by decide))
    -- the ends
    refine ⟨_, rfl, sl, rfl, ⟨_, SqL.of h4⟩, fun D hD => ?_⟩
    refine lc_it (walk_list (K := K) (a := sl) (xs := sxs)) (fun i H' => Same H H' ∧ ∃ acc : List V, acc.length = i ∧ H' D = some (.lst acc) ∧ ∀ (i : Nat) (e : V) (rows : List Row) (ans : List V), acc[i]? = some e → rowss[i]? = some rows → anss[i]? = some ans → (ans.length < rows.length → e = .non) ∧ (ans.length = rows.length → ∃ p, e = .ref p ∧ SqT K H' p [.str "told", .non]))
      ⟨same_new hD, [], rfl, upd_same, fun j e rows ans h => (nomatch h)⟩ (fun i H' _ p => SqL.of (p.1 _ _ h4)) (fun i x H1 H' hi p y => ?_) (fun H1 p => ?_)
    · obtain ⟨rfl, hx0⟩ := y
      obtain ⟨sm, acc, la, hd, each⟩ := p
      obtain ⟨rows, hrow⟩ : ∃ rows, rowss[i]? = some rows := ⟨_, List.getElem?_eq_getElem (l2 ▸ hi)⟩
      obtain ⟨ans, hans⟩ : ∃ ans, anss[i]? = some ans := ⟨_, List.getElem?_eq_getElem (by omega)⟩
      obtain ⟨t, pp, u, rfl, r1, r2, r3⟩ := (h7 i x rows ans hx0 hrow hans).tk (TK.of sm) |>.ex
      refine ⟨rfl, ?_⟩
      unfold tYes
      dsimp only
      refine iteT ?_
      refine ⟨_, rfl, t, _, _, _, rfl, rfl, r1, atI_nat (j := 0) rfl, ?_⟩
      have fin : ∀ e : V, ((ans.length < rows.length → e = .non) ∧ (ans.length = rows.length → ∃ p, e = .ref p ∧ SqT K H' p [.str "told", .non])) → ∃ acc, H' D = some (.lst acc) ∧ acc.length < sizeLine ∧ (Same H (upd H' D (.lst (acc ++ [e]))) ∧ ∃ acc2 : List V, acc2.length = i + 1 ∧ (upd H' D (.lst (acc ++ [e]))) D = some (.lst acc2) ∧ ∀ (i : Nat) (e' : V) (rows : List Row) (ans : List V), acc2[i]? = some e' → rowss[i]? = some rows → anss[i]? = some ans → (ans.length < rows.length → e' = .non) ∧ (ans.length = rows.length → ∃ p, e' = .ref p ∧ SqT K (upd H' D (.lst (acc ++ [e]))) p [.str "told", .non])) := fun e he => by
        have tk : TK K H' (upd H' D (.lst (acc ++ [e]))) := tk_lst hd
        refine ⟨acc, hd, small (by omega), fun b o z => ?_, acc ++ [e], by rw [List.length_append, la]; rfl, upd_same, fun j e' rows' ans' hj hr' ha' => ?_⟩
        · rw [upd_ne (ne_of_none z hD)]
          exact sm _ _ z
        · by_cases c : j < acc.length
          · rw [List.getElem?_append_left c] at hj
            obtain ⟨z1, z2⟩ := each j e' rows' ans' hj hr' ha'
            exact ⟨z1, fun q => by
              obtain ⟨p, e1, e2⟩ := z2 q
              exact ⟨p, e1, tk _ _ e2⟩⟩
          · have z := (List.getElem?_eq_some_iff.mp hj).1
            rw [List.length_append] at z
            have ej : j = acc.length := by
              have : j < acc.length + 1 := z
              omega
            rw [ej, List.getElem?_append_right (Nat.le_refl _), Nat.sub_self] at hj
            obtain rfl := (Option.some.inj (show some e = some e' from hj))
            rw [ej, la] at hr' ha'
            obtain rfl := Option.some.inj (hrow.symm.trans hr')
            obtain rfl := Option.some.inj (hans.symm.trans ha')
            exact ⟨he.1, fun q => by
              obtain ⟨p, e1, e2⟩ := he.2 q
              exact ⟨p, e1, tk _ _ e2⟩⟩
      rcases r3 with ⟨lt, wt, r, er, qp, qw⟩ | ⟨eq, qp⟩
      · refine ⟨pp, _, _, _, rfl, rfl, qp, atI_nat (j := 0) rfl, rfl, _, rfl, ?_⟩
        rw [decide_eq_true rfl]
        exact iteT (fin _ ⟨fun _ => rfl, fun z => by omega⟩)
      · refine ⟨pp, _, _, _, rfl, rfl, qp, atI_nat (j := 0) rfl, rfl, _, rfl, ?_⟩
        rw [decide_eq_false (by decide +kernel)]
        exact iteF ⟨_, rfl, t, _, _, _, rfl, rfl, r1, atI_nat (j := 0) rfl, fin _ ⟨fun z => by omega, fun _ => ⟨pp, rfl, qp⟩⟩⟩
    obtain ⟨sm, es, la, hd, each⟩ := p
    refine ⟨D, es, rfl, .inl ⟨SqL.of hd, fun e he => ?_⟩⟩
    have se := same_new (o := .tup es) he
    have s1 := sm.trans se
    have E1 : EndsTo K (upd H1 e (.tup es)) rowss anss es := ⟨by rw [la, l2], fun i x rows ans a b c => ⟨(each i x rows ans a b c).1, fun z => by
      obtain ⟨p, e1, e2⟩ := (each i x rows ans a b c).2 z
      exact ⟨p, e1, seqT_same se e2⟩⟩⟩
    have e1 : (upd H1 e (.tup es)) e = some (.tup es) := upd_same
    generalize upd H1 e (.tup es) = H2 at *
    -- the things
    refine ⟨_, rfl, _, rfl, _, rfl, small_sz (n := 3) (by decide), fun tp htp => ?_⟩
    have s2 := s1.trans (same_new (o := .tup [.ref bx, .ref hx, .ref rx]) htp)
    have e2 := same_new (o := .tup [.ref bx, .ref hx, .ref rx]) htp _ _ e1
    have E2 := E1.tk (TK.of (same_new (o := .tup [.ref bx, .ref hx, .ref rx]) htp))
    have tp2 : (upd H2 tp (.tup [.ref bx, .ref hx, .ref rx])) tp = some (.tup [.ref bx, .ref hx, .ref rx]) := upd_same
    generalize upd H2 tp (.tup [.ref bx, .ref hx, .ref rx]) = H3 at *
    refine ⟨tp, rfl, ⟨_, SqT.of tp2⟩, fun D2 hD2 => ?_⟩
    have tabs : ∀ (i : Nat) (x : V), ([.ref bx, .ref hx, .ref rx] : List V)[i]? = some x → ∃ (d : Addr) (kvs : List (Key × V)) (kk : List Str), x = .ref d ∧ H d = some (.dK kvs) ∧ kvs.map (·.1) = kk.map Sum.inr ∧ kk.length < 64 ∧ (i = 2 → kvs = rk ∧ kk = S.bk) ∧ (i ≠ 2 → kvs = [] ∧ kk = []) := fun i x e => match i, e with
      | 0, e => ⟨bx, [], [], (Option.some.inj e).symm, q2, rfl, by show 0 < 64; decide, fun z => absurd z (by decide), fun _ => ⟨rfl, rfl⟩⟩
      | 1, e => ⟨hx, [], [], (Option.some.inj e).symm, q3, rfl, by show 0 < 64; decide, fun z => absurd z (by decide), fun _ => ⟨rfl, rfl⟩⟩
      | 2, e => ⟨rx, rk, S.bk, (Option.some.inj e).symm, q4, q5.keys, lk, fun _ => ⟨rfl, rfl⟩, fun z => absurd rfl z⟩
    refine lc_it (walk_tup (K := K) (a := tp) (xs := [.ref bx, .ref hx, .ref rx])) (fun i H' => Same H3 H' ∧ ∃ acc : List V, acc.length = i ∧ H' D2 = some (.lst acc) ∧ ∀ (j : Nat) (y : V), acc[j]? = some y → ∃ t xs, y = .ref t ∧ H' t = some (.tup xs) ∧ (j = 2 → PairsIn rk S.bk H' xs) ∧ (j ≠ 2 → xs = []))
      ⟨same_new hD2, [], rfl, upd_same, fun j y h => (nomatch h)⟩ (fun i H' _ p => SqT.of (p.1 _ _ tp2)) (fun i x H4 H' hi p y => ?_) (fun H4 p => ?_)
    · obtain ⟨rfl, hx0⟩ := y
      obtain ⟨sm, acc, la, hd, each⟩ := p
      obtain ⟨d, kvs, kk, rfl, hdd, hkk, lkk, i0, i1⟩ := tabs i x hx0
      have hi3 : i < 3 := hi
      refine ⟨rfl, ?_⟩
      refine yesI (iteT ?_)
      refine ⟨_, rfl, d, kvs, kk, rfl, .inl (sm _ _ (s2 _ _ hdd)), hkk, lkk, fun ys p perm srt hp => ?_⟩
      have sp := same_new (o := .lst (ys.map V.str)) hp
      refine ⟨p, rfl, ⟨_, SqL.of upd_same⟩, fun D3 hD3 => ?_⟩
      have sd := same_new (o := .lst []) hD3
      have pp0 : (upd H' p (.lst (ys.map V.str))) p = some (.lst (ys.map V.str)) := upd_same
      generalize upd H' p (.lst (ys.map V.str)) = H5 at *
      refine lc_it (walk_list (K := K) (a := p) (xs := ys.map V.str)) (fun i H' => Same H5 H' ∧ ∃ acc, acc.length = i ∧ H' D3 = some (.lst acc) ∧ PairsTo kvs ys H' acc) ⟨sd, [], rfl, upd_same, fun i x nm h => (nomatch h)⟩ (fun i H' _ z => SqL.of (z.1 _ _ pp0)) (fun j x H6 H7 hj z y => ?_) (fun H6 z => ?_)
      · obtain ⟨rfl, e⟩ := y
        obtain ⟨sm2, acc2, la2, hd2, each2⟩ := z
        obtain ⟨nm, hn, rfl⟩ : ∃ nm, ys[j]? = some nm ∧ x = V.str nm := by
          rw [List.getElem?_map] at e
          obtain ⟨z, h1, h2⟩ := Option.map_eq_some_iff.mp e
          exact ⟨z, h1, h2.symm⟩
        have li := (List.getElem?_eq_some_iff.mp hn).1
        have ly : ys.length < 64 := by rw [perm.length_eq]; exact lkk
        obtain ⟨v, hv⟩ : ∃ v, valV kvs (Sum.inr nm) = some v := valV_mem (by rw [hkk]; exact List.mem_map.mpr ⟨nm, perm.mem_iff.mp (List.mem_of_getElem? hn), rfl⟩)
        refine ⟨rfl, ?_⟩
        refine yesI (iteT ?_)
        refine ⟨_, rfl, _, rfl, _, rfl, d, v, rfl, ?_, two_sz, fun t ht => ?_⟩
        · have z := DGet.k (k := Sum.inr nm) (sm2 _ _ (sp _ _ (sm _ _ (s2 _ _ hdd))))
          rw [hv] at z
          exact z
        · have st := same_new (o := .tup [.str nm, v]) ht
          refine ⟨acc2, st _ _ hd2, small (by omega), fun b o e => ?_, acc2 ++ [.ref t], by rw [List.length_append, la2]; rfl, upd_same, fun j' x' nm' hj hn' => ?_⟩
          · rw [upd_ne (ne_of_none e hD3)]
            exact st _ _ (sm2 _ _ e)
          · by_cases c : j' < acc2.length
            · rw [List.getElem?_append_left c] at hj
              obtain ⟨t', v', e1, e2, e3⟩ := each2 j' x' nm' hj hn'
              exact ⟨t', v', e1, (upd_ne (ne_of (st _ _ e2) (st _ _ hd2) (by intro z; cases z))).trans (st _ _ e2), e3⟩
            · have z := (List.getElem?_eq_some_iff.mp hj).1
              rw [List.length_append] at z
              have ej : j' = acc2.length := by
                have : j' < acc2.length + 1 := z
                omega
              rw [ej, List.getElem?_append_right (Nat.le_refl _), Nat.sub_self] at hj
              obtain rfl := (Option.some.inj (show some (V.ref t) = some x' from hj)).symm
              rw [ej, la2] at hn'
              obtain rfl := Option.some.inj (hn.symm.trans hn')
              exact ⟨t, v, rfl, (upd_ne (fun z => by rw [z, hd2] at ht; cases ht)).trans upd_same, hv⟩
      · obtain ⟨sm2, acc2, la2, hd2, each2⟩ := z
        refine ⟨D3, acc2, rfl, .inl ⟨SqL.of hd2, fun t ht => ?_⟩⟩
        have st := same_new (o := .tup acc2) ht
        have S := sp.trans (sm2.trans st)
        have hdS := S _ _ hd
        have key : ∀ {b : Addr} {o : HO}, (upd H6 t (.tup acc2)) b = some o → (∀ ys, o ≠ .lst ys) → (upd (upd H6 t (.tup acc2)) D2 (.lst (acc ++ [.ref t]))) b = some o := fun {b o} e n => (upd_ne (fun z => by rw [z, hdS] at e; exact n _ (Option.some.inj e).symm)).trans e
        have keyP : ∀ {kv : List (Key × V)} {zs : List Str} {xs : List V}, PairsIn kv zs (upd H6 t (.tup acc2)) xs → PairsIn kv zs (upd (upd H6 t (.tup acc2)) D2 (.lst (acc ++ [.ref t]))) xs := fun {kv zs xs} ⟨ws, g1, g2, g3, g4⟩ => ⟨ws, g1, g2, g3, fun a x nm h1 h2 => by
          obtain ⟨t', v', e1, e2, e3⟩ := g4 a x nm h1 h2
          exact ⟨t', v', e1, key e2 fun _ z => (nomatch z), e3⟩⟩
        have P0 : PairsIn kvs kk (upd H6 t (.tup acc2)) acc2 := ⟨ys, perm, srt, by rw [la2, List.length_map], each2.same st⟩
        refine ⟨acc, hdS, small (by omega), fun b o z => ?_, acc ++ [.ref t], by rw [List.length_append, la]; rfl, upd_same, fun j' y' hj => ?_⟩
        · rw [upd_ne (ne_of_none z hD2)]
          exact S _ _ (sm _ _ z)
        · by_cases c : j' < acc.length
          · rw [List.getElem?_append_left c] at hj
            obtain ⟨t', xs', g1, g2, g3, g4⟩ := each j' y' hj
            exact ⟨t', xs', g1, key (S _ _ g2) fun _ z => (nomatch z), fun z => keyP ((g3 z).same S), g4⟩
          · have z := (List.getElem?_eq_some_iff.mp hj).1
            rw [List.length_append] at z
            have ej : j' = acc.length := by
              have : j' < acc.length + 1 := z
              omega
            rw [ej, List.getElem?_append_right (Nat.le_refl _), Nat.sub_self] at hj
            obtain rfl := (Option.some.inj (show some (V.ref t) = some y' from hj)).symm
            refine ⟨t, acc2, rfl, key upd_same fun _ z => (nomatch z), fun z => ?_, fun z => ?_⟩
            · obtain ⟨g1, g2⟩ := i0 (by omega)
              rw [g1, g2] at P0
              exact keyP P0
            · obtain ⟨g1, g2⟩ := i1 (by omega)
              subst g2
              have := perm.length_eq
              rw [List.length_map] at la2
              exact List.eq_nil_of_length_eq_zero (la2.trans this)
    obtain ⟨sm3, things, lt3, hd3, each3⟩ := p
    have lt3 : things.length = 3 := lt3
    obtain ⟨ya, hya⟩ : ∃ y, things[0]? = some y := ⟨_, List.getElem?_eq_getElem (by omega)⟩
    obtain ⟨yb, hyb⟩ : ∃ y, things[1]? = some y := ⟨_, List.getElem?_eq_getElem (by omega)⟩
    obtain ⟨yc, hyc⟩ : ∃ y, things[2]? = some y := ⟨_, List.getElem?_eq_getElem (by omega)⟩
    obtain ⟨ta, xa, rfl, ha1, _, ha2⟩ := each3 0 ya hya
    obtain ⟨tb, xb, rfl, hb1, _, hb2⟩ := each3 1 yb hyb
    obtain ⟨tc, xc, rfl, hc1, hc2, _⟩ := each3 2 yc hyc
    obtain rfl := ha2 (by decide)
    obtain rfl := hb2 (by decide)
    have hc2 := belts_of (hc2 rfl) (q5.tk (TK.of (s2.trans sm3)))
    have s4 := s2.trans sm3
    have e4 := sm3 _ _ e2
    have E4 := E2.tk (TK.of sm3)
    -- the tuple
    refine ⟨_, rfl, _, rfl, D2, _, _, _, rfl, rfl, SqL.of hd3, atI_nat (j := 0) hya, _, rfl, D2, _, _, _, rfl, rfl, SqL.of hd3, atI_nat (j := 1) hyb, _, rfl, D2, _, _, _, rfl, rfl, SqL.of hd3, atI_nat (j := 2) hyc, ?_⟩
    refine ⟨_, rfl, sl, rfl, ⟨_, SqL.of (s4 _ _ h4)⟩, fun D4 hD4 => ?_⟩
    refine lc_it (walk_list (K := K) (a := sl) (xs := sxs)) (fun i H' => Same H4 H' ∧ ∃ acc : List V, acc.length = i ∧ H' D4 = some (.lst acc) ∧ SaidTo K H' acc)
      ⟨same_new hD4, [], rfl, upd_same, fun j x h => (nomatch h)⟩ (fun i H' _ p => SqL.of (p.1 _ _ (s4 _ _ h4))) (fun i x H5 H' hi p y => ?_) (fun H5 p => ?_)
    · obtain ⟨rfl, hx0⟩ := y
      obtain ⟨sm, acc, la, hd, each⟩ := p
      obtain ⟨rows, hrow⟩ : ∃ rows, rowss[i]? = some rows := ⟨_, List.getElem?_eq_getElem (l2 ▸ hi)⟩
      obtain ⟨ans, hans⟩ : ∃ ans, anss[i]? = some ans := ⟨_, List.getElem?_eq_getElem (by omega)⟩
      obtain ⟨t, pp, u, rfl, r1, r2, r3⟩ := (h7 i x rows ans hx0 hrow hans).tk (TK.of (s4.trans sm)) |>.ex
      refine ⟨rfl, ?_⟩
      refine yesI (iteT ?_)
      refine ⟨_, rfl, t, _, _, _, rfl, rfl, r1, atI_nat (j := 1) rfl, acc, hd, small (by omega), fun b o z => ?_, acc ++ [.ref u], by rw [List.length_append, la]; rfl, upd_same, fun j x' hj => ?_⟩
      · rw [upd_ne (ne_of_none z hD4)]
        exact sm _ _ z
      · have tk : TK K H' (upd H' D4 (.lst (acc ++ [.ref u]))) := tk_lst hd
        by_cases c : j < acc.length
        · rw [List.getElem?_append_left c] at hj
          exact (SaidTo.tk tk each) j x' (by exact hj)
        · have z := (List.getElem?_eq_some_iff.mp hj).1
          rw [List.length_append] at z
          have ej : j = acc.length := by
            have : j < acc.length + 1 := z
            omega
          rw [ej, List.getElem?_append_right (Nat.le_refl _), Nat.sub_self] at hj
          obtain rfl := (Option.some.inj (show some (V.ref u) = some x' from hj)).symm
          exact ⟨u, rfl, tk _ _ r2⟩
    · obtain ⟨sm, ws, lw, hdw, eachw⟩ := p
      refine ⟨D4, ws, rfl, .inl ⟨SqL.of hdw, fun tw htw => ⟨small_sz (n := 5) (by decide), fun t ht => ?_⟩⟩⟩
      have sw := same_new (o := .tup ws) htw
      have st := same_new (o := .tup [.ref e, .ref ta, .ref tb, .ref tc, .ref tw]) ht
      have SS := sm.trans (sw.trans st)
      exact k t e ta tb tc tw _ es xc ws (s4.trans SS) (SqT.of upd_same) (SqT.of (SS _ _ e4)) (E4.tk (TK.of SS)) (SqT.of (SS _ _ ha1)) (SqT.of (SS _ _ hb1)) (SqT.of (SS _ _ hc1)) (hc2.tk (TK.of SS)) (SqT.of (st _ _ upd_same)) (by rw [lw, l2]) (eachw.tk (TK.of (sw.trans st)))
end
end TW
namespace TW
open PySem PySem.Spec PyProof.Rows L2
abbrev sNear : Stmt := top 83
abbrev sWorkL : Stmt := top 84
/-- all but p stands, and p is three numbers -/
structure PutP (p : Addr) (H H' : Hp) : Prop where
  k : ∀ b o, b ≠ p → H b = some o → H' b = some o
  p : ∃ x y z : Int, H' p = some (.lst [.int x, .int y, .int z])
theorem PutP.trans {p : Addr} {H H1 H2 : Hp} (a : PutP p H H1) (b : PutP p H1 H2) : PutP p H H2 := ⟨fun c o n e => b.k c o n (a.k c o n e), b.p⟩
theorem PutP.same {p : Addr} {H H' : Hp} (e : Same H H') (h : ∃ x y z : Int, H p = some (.lst [.int x, .int y, .int z])) : PutP p H H' := ⟨fun b o _ q => e b o q, let ⟨x, y, z, q⟩ := h; ⟨x, y, z, e _ _ q⟩⟩
theorem PutP.put {p : Addr} {H : Hp} {x y z : Int} : PutP p H (upd H p (.lst [.int x, .int y, .int z])) := ⟨fun b o n e => (upd_ne n).trans e, x, y, z, upd_same⟩
theorem PutP.frm {p : Addr} {H H' : Hp} {B : Addr → Prop} (a : PutP p H H') (hp : ∃ x y z : Int, H p = some (.lst [.int x, .int y, .int z])) (hB : B p) : Frm B H H' :=
  ⟨fun b o n e => a.k b o (fun z => n (z ▸ hB)) e, fun b o e n m => a.k b o (fun z => by
    obtain ⟨x, y, w, q⟩ := hp
    rw [z, q] at e
    exact n _ (Option.some.inj e).symm) e⟩
theorem PutP.tk {p : Addr} {K : PySem.W.Frag} {H H' : Hp} (a : PutP p H H') (hp : ∃ x y z : Int, H p = some (.lst [.int x, .int y, .int z])) : TK K H H' := (a.frm (B := fun b => b = p) hp rfl).tk
def spNear (K : PySem.W.Frag) : Sp := fun vs H Q _ => ∃ p : Addr, vs = [.ref p] ∧ (∃ x y z : Int, H p = some (.lst [.int x, .int y, .int z])) ∧ ∀ v d H', PutP p H H' → VD K H' 3 v d → Q v H'
section
variable {P : Program} {w : World} {K : PySem.W.Frag} {mg : Str → Option Value} {base : Heap}
theorem scNear : FnScope ["_law_draws"] ["_law_draws"] (defScope sNear) := ⟨rfl, rfl, rfl, by decide +kernel, rfl, by decide +kernel, by decide +kernel⟩
theorem ok_near {f fK : Addr} {fd fdK : FuncData} (F : Fun K "_law_value" "_law_value" sNear f fd)
    (GK : FnOk P w K mg base CX0 2 fK fdK ["_law_draws", "_law_xs"] (spPick K)) (mK : mg "_law_pick" = some (.ref fK)) (kK : PySem.W.keepIn K (.ref fK) = true) (bK : Binds K fdK ["_law_draws", "_law_xs"] []) :
    FnOk P w K mg base CX0 3 f fd ["_law_draws"] (spNear K) := by
  refine F.ok scNear (fun vs H Q E h => ?_) (fun cdv A outer s H vs Q E hr h => ?_)
  · obtain ⟨p, rfl, _⟩ := h
    rfl
  · obtain ⟨p, rfl, ⟨x, y, z, hp⟩, k⟩ := h
    refine ⟨_, pss_one (ps_ret (pe_call GK hr rfl mK kK bK .nil pass0 (pa_cons (pv 0) (pa_cons (pe_lst (pa_cons pe_int (pa_cons pe_int (pa_cons pe_int (pa_cons pe_int (pa_cons pe_bl (pa_cons pe_bl (pa_cons pe_non (pa_cons pe_str (pa_cons (pe_tup (pa_cons pe_int (pa_cons pe_str pa_nil))) (pa_cons (pe_tup (pa_cons pe_bl (pa_cons pe_int pa_nil)))
      (pa_cons (pe_op op_pow pe_int pe_int) (pa_cons (pe_op op_sub pe_int pe_int) pa_nil))))))))))))) pa_nil)))), ?_⟩
    refine ⟨_, rfl, two_sz, fun t1 ht1 => ⟨two_sz, fun t2 ht2 => ⟨_, _, rfl, rfl, ⟨by decide, by decide, by decide⟩, _, _, rfl, rfl, ⟨small_sz (n := 12) (by decide), fun l hl => ?_⟩⟩⟩⟩
    have s1 := same_new (o := .tup [.int 1, .str "b"]) ht1
    have s2 := same_new (o := .tup [.bl true, .int 0]) ht2
    have e2 : (upd (upd H t1 (.tup [.int 1, .str "b"])) t2 (.tup [.bl true, .int 0])) t2 = some (.tup [.bl true, .int 0]) := upd_same
    have e1 := s2 _ _ (upd_same (H := H) (a := t1) (o := .tup [.int 1, .str "b"]))
    have S := s1.trans s2
    generalize upd (upd H t1 (.tup [.int 1, .str "b"])) t2 (.tup [.bl true, .int 0]) = H1 at *
    have sl := same_new (o := .lst [.int 0, .int 1, .int 2, .int 1, .bl true, .bl false, .non, .str "a", .ref t1, .ref t2, .int (10 ^ Int.toNat 9), .int (0 - 3)]) hl
    have pl := sl _ _ (S _ _ hp)
    have lp : l ≠ p := fun e => by
      rw [e, S _ _ hp] at hl
      cases hl
    have va : PyData.canLay0 (.str "a") = true := by decide +kernel
    have vb : PyData.canLay0 (.str "b") = true := by decide +kernel
    refine ⟨p, l, x, y, z, _, rfl, pl, SqL.of upd_same, by show 0 < 12; decide, by show 12 ≤ 1000; decide, fun a' b' c' => SqL.of ((upd_ne lp).trans upd_same), fun j v a' b' c' hj => ?_⟩
    have P1 : PutP p H (upd (upd H1 l (.lst [.int 0, .int 1, .int 2, .int 1, .bl true, .bl false, .non, .str "a", .ref t1, .ref t2, .int (10 ^ Int.toNat 9), .int (0 - 3)])) p (.lst [.int a', .int b', .int c'])) := (PutP.same (S.trans sl) ⟨x, y, z, hp⟩).trans .put
    have tk : TK K H1 (upd (upd H1 l (.lst [.int 0, .int 1, .int 2, .int 1, .bl true, .bl false, .non, .str "a", .ref t1, .ref t2, .int (10 ^ Int.toNat 9), .int (0 - 3)])) p (.lst [.int a', .int b', .int c'])) := (TK.of sl).trans (tk_lst pl)
    generalize upd (upd H1 l (.lst [.int 0, .int 1, .int 2, .int 1, .bl true, .bl false, .non, .str "a", .ref t1, .ref t2, .int (10 ^ Int.toNat 9), .int (0 - 3)])) p (.lst [.int a', .int b', .int c']) = H2 at *
    have two : ∀ {t : Addr} {u1 u2 : V} {d1 d2 : PyData}, H1 t = some (.tup [u1, u2]) → VD K H2 2 u1 d1 → VD K H2 2 u2 d2 → VD K H2 3 (.ref t) (.tuple [d1, d2]) := fun {t u1 u2 d1 d2} e g1 g2 => .tup (tk _ _ (SqT.of e)) rfl (by show 2 ≤ 1000; decide) fun i x d h1 h2 => match i, h1, h2 with
      | 0, h1, h2 => by cases h1; cases h2; exact g1
      | 1, h1, h2 => by cases h1; cases h2; exact g2
    match j, hj with
    | 0, hj => cases hj; exact k _ _ _ P1 (.int _ _)
    | 1, hj => cases hj; exact k _ _ _ P1 (.int _ _)
    | 2, hj => cases hj; exact k _ _ _ P1 (.int _ _)
    | 3, hj => cases hj; exact k _ _ _ P1 (.int _ _)
    | 4, hj => cases hj; exact k _ _ _ P1 (.bl _ _)
    | 5, hj => cases hj; exact k _ _ _ P1 (.bl _ _)
    | 6, hj => cases hj; exact k _ _ _ P1 (.non _)
    | 7, hj => cases hj; exact k _ _ _ P1 (.str _ _ va)
    | 8, hj => cases hj; exact k _ _ _ P1 (two e1 (.int _ _) (.str _ _ vb))
    | 9, hj => cases hj; exact k _ _ _ P1 (two e2 (.bl _ _) (.int _ _))
    | 10, hj => cases hj; exact k _ _ _ P1 (.int _ _)
    | 11, hj => cases hj; exact k _ _ _ P1 (.int _ _)
end
end TW
namespace TW
open PySem PySem.Spec PyProof.Rows L2
/-- rows about the cells x and y -/
structure GoodRow (K : PySem.W.Frag) (H : Hp) (r : Row) : Prop where
  kind : ∀ ns, CellKind r.kind (r.parts.map (partV ns))
  name : r.name ∈ (["b", "c"] : List Str)
  parts : r.parts.length ≤ 2
  vals : ∀ v, Part.value v ∈ r.parts → ∃ d, VD K H 3 v d
theorem GoodRow.tk {K : PySem.W.Frag} {H H' : Hp} {r : Row} (e : TK K H H') (h : GoodRow K H r) : GoodRow K H' r :=
  ⟨h.kind, h.name, h.parts, fun v m => by
    obtain ⟨d, q⟩ := h.vals v m
    exact ⟨d, q.tk e⟩⟩
theorem rowsOk_good {K : PySem.W.Frag} {H : Hp} {n : Nat} (hn : n = 3) {rows : List Row} (few : rows.length ≤ 5) (h : ∀ r ∈ rows, GoodRow K H r) : RowsOk K H n ["b", "c"] rows := by
  subst hn
  exact ⟨fun r hr => (h r hr).kind, fun r hr => (h r hr).name, fun r hr => Nat.le_trans (h r hr).parts (by decide), fun r hr v hv => by
    obtain ⟨d, q⟩ := (h r hr).vals v hv
    exact q.vns, by omega⟩
def spWorkL (K : PySem.W.Frag) : Sp := fun vs H Q _ => ∃ p : Addr, vs = [.ref p] ∧ (∃ x y z : Int, H p = some (.lst [.int x, .int y, .int z])) ∧ ∀ rl rows H', PutP p H H' → H rl = none → RowsAt K H' rl rows → (∀ r ∈ rows, GoodRow K H' r) → rows.length ≤ 5 → Q (.ref rl) H'
/-- lay, fetch = .., ..; found.append(pick(.., [lay, fetch])) -/
def tTail (K : PySem.W.Frag) : L2.TS := tSeq (tPar 5 6 (tCons (tTup (tCons (tC (.str "lay")) (tCons (tVar 3) (tCons (tTup (tCons (tVar 4) tNil)) (tCons (tC (.int 9)) tNil))))) (tCons (tTup (tCons (tC (.str "fetch")) (tCons (tVar 3) (tCons (tTup tNil) (tCons (tCall spDraw [] E0 (tCons (tVar 0) (tCons (tC (.int 2)) tNil))) tNil))))) tNil)))
  (tDrop (tBM K "list" rAppend (tVar 1) (tCons (tCall (spPick K) [] E0 (tCons (tVar 0) (tCons (tLst (tCons (tVar 5) (tCons (tVar 6) tNil))) tNil))) tNil)))
theorem tail_ok {K : PySem.W.Frag} {W : Ends} {p rl pt : Addr} {nm : Str} {xs : List V} {q : Part} {q2 q5 q6 : Option V} {H : Hp} (hp : ∃ x y z : Int, H p = some (.lst [.int x, .int y, .int z])) (hr : H rl = some (.lst xs)) (rp : rl ≠ p) (few : xs.length ≤ 5) (hq : PartAt K H (.ref pt) q)
    (k : ∀ (t : Addr) (r : Row) (v5 v6 : V) (H' : Hp), (∀ b o, b ≠ p → b ≠ rl → H b = some o → H' b = some o) → (∃ x y z : Int, H' p = some (.lst [.int x, .int y, .int z])) → H' rl = some (.lst (xs ++ [.ref t])) → r.name = nm → ((r.kind = "lay" ∧ r.parts = [q]) ∨ (r.kind = "fetch" ∧ r.parts = [])) → RowAt K H' (.ref t) r → TK K H H' →
      W.nx [some (.ref p), some (.ref rl), q2, some (.str nm), some (.ref pt), some v5, some v6] H') : tTail K W [some (.ref p), some (.ref rl), q2, some (.str nm), some (.ref pt), q5, q6] H := by
  obtain ⟨x, y, z, hp⟩ := hp
  have one : 1 ≤ sizeLine := small_sz (n := 1) (by decide)
  refine ⟨_, rfl, _, rfl, one, fun u1 hu1 => ⟨four_sz, fun t1 ht1 => ?_⟩⟩
  have s1 := same_new (o := .tup [.ref pt]) hu1
  have s2 := same_new (o := .tup [.str "lay", .str nm, .ref u1, .int 9]) ht1
  have g1 := s2 _ _ (upd_same (H := H) (a := u1) (o := .tup [.ref pt]))
  have g2 : (upd (upd H u1 (.tup [.ref pt])) t1 (.tup [.str "lay", .str nm, .ref u1, .int 9])) t1 = some (.tup [.str "lay", .str nm, .ref u1, .int 9]) := upd_same
  have S1 := s1.trans s2
  generalize upd (upd H u1 (.tup [.ref pt])) t1 (.tup [.str "lay", .str nm, .ref u1, .int 9]) = H1 at *
  refine ⟨_, rfl, Nat.zero_le _, fun u2 hu2 => ?_⟩
  have s3 := same_new (o := .tup []) hu2
  have g3 : (upd H1 u2 (.tup [])) u2 = some (.tup []) := upd_same
  refine ⟨_, rfl, p, x, y, z, 2, rfl, s3 _ _ (S1 _ _ hp), by decide, by decide, fun rr a b c lo hi => ⟨four_sz, fun t2 ht2 => ⟨_, _, rfl, ?_⟩⟩⟩
  have S3 := S1.trans s3
  have g1 := s3 _ _ g1
  have g2 := s3 _ _ g2
  generalize upd H1 u2 (.tup []) = H2 at *
  have P3 : PutP p H (upd H2 p (.lst [.int a, .int b, .int c])) := (PutP.same S3 ⟨_, _, _, hp⟩).trans .put
  have tk3 : TK K H2 (upd H2 p (.lst [.int a, .int b, .int c])) := tk_lst (S3 _ _ hp)
  have s4 := same_new (o := .tup [.str "fetch", .str nm, .ref u2, .int rr]) ht2
  have hp4 := s4 _ _ (upd_same (H := H2) (a := p) (o := .lst [.int a, .int b, .int c]))
  have g4 : (upd (upd H2 p (.lst [.int a, .int b, .int c])) t2 (.tup [.str "fetch", .str nm, .ref u2, .int rr])) t2 = some (.tup [.str "fetch", .str nm, .ref u2, .int rr]) := upd_same
  have hr4 := s4 _ _ (P3.k _ _ rp hr)
  have tk4 : TK K H2 (upd (upd H2 p (.lst [.int a, .int b, .int c])) t2 (.tup [.str "fetch", .str nm, .ref u2, .int rr])) := tk3.trans (TK.of s4)
  have k4 : ∀ b' o, b' ≠ p → H b' = some o → (upd (upd H2 p (.lst [.int a, .int b, .int c])) t2 (.tup [.str "fetch", .str nm, .ref u2, .int rr])) b' = some o := fun b' o n e => s4 _ _ (P3.k _ _ n e)
  generalize upd (upd H2 p (.lst [.int a, .int b, .int c])) t2 (.tup [.str "fetch", .str nm, .ref u2, .int rr]) = H4 at *
  refine ⟨_, rfl, .inl ⟨rfl, _, SqL.of hr4⟩, ?_⟩
  refine ⟨_, rfl, _, rfl, _, rfl, two_sz, fun l hl => ?_⟩
  have sl := same_new (o := .lst [.ref t1, .ref t2]) hl
  have lp : l ≠ p := fun e => by
    rw [e, hp4] at hl
    cases hl
  refine ⟨p, l, a, b, c, _, rfl, sl _ _ hp4, SqL.of upd_same, by show 0 < 2; decide, by show 2 ≤ 1000; decide, fun a' b' c' => SqL.of ((upd_ne lp).trans upd_same), fun j v a' b' c' hj => ?_⟩
  have hp5 := sl _ _ hp4
  have tk5 : TK K H4 (upd (upd H4 l (.lst [.ref t1, .ref t2])) p (.lst [.int a', .int b', .int c'])) := (TK.of sl).trans (tk_lst hp5)
  have hr5 : (upd (upd H4 l (.lst [.ref t1, .ref t2])) p (.lst [.int a', .int b', .int c'])) rl = some (.lst xs) := (upd_ne rp).trans (sl _ _ hr4)
  have p5 : (upd (upd H4 l (.lst [.ref t1, .ref t2])) p (.lst [.int a', .int b', .int c'])) p = some (.lst [.int a', .int b', .int c']) := upd_same
  have k5 : ∀ bb o, bb ≠ p → H bb = some o → (upd (upd H4 l (.lst [.ref t1, .ref t2])) p (.lst [.int a', .int b', .int c'])) bb = some o := fun bb o n e => (upd_ne n).trans (sl _ _ (k4 bb o n e))
  generalize upd (upd H4 l (.lst [.ref t1, .ref t2])) p (.lst [.int a', .int b', .int c']) = H5 at *
  have tk6 : ∀ w : V, TK K H5 (upd H5 rl (.lst (xs ++ [w]))) := fun w => tk_lst hr5
  have tkA : TK K H H5 := (TK.of S3).trans (tk4.trans tk5)
  have tkB : TK K H2 H5 := tk4.trans tk5
  have sz : xs.length < sizeLine := Nat.lt_of_lt_of_le (by omega : xs.length < 6) (small_sz (n := 6) (by decide))
  have fr : ∀ w : V, ∀ b' o, b' ≠ p → b' ≠ rl → H b' = some o → (upd H5 rl (.lst (xs ++ [w]))) b' = some o := fun w b' o e1 e2 e => (upd_ne e2).trans (k5 b' o e1 e)
  have pp : ∀ w : V, ∃ x y z : Int, (upd H5 rl (.lst (xs ++ [w]))) p = some (.lst [.int x, .int y, .int z]) := fun w => ⟨_, _, _, (upd_ne (Ne.symm rp)).trans p5⟩
  match j, hj with
  | 0, hj =>
    cases hj
    refine ⟨rl, xs, _, rfl, rfl, hr5, sz, ?_⟩
    refine k t1 ⟨"lay", nm, [q], 9⟩ _ _ _ (fr _) (pp _) upd_same rfl (.inl ⟨rfl, rfl⟩) ⟨t1, u1, [.ref pt], rfl, tk6 _ _ _ (tkB _ _ (SqT.of g2)), tk6 _ _ _ (tkB _ _ (SqT.of g1)), rfl, fun i y q' h1 h2 => ?_⟩ (tkA.trans (tk6 _))
    match i, h1, h2 with
    | 0, h1, h2 =>
      cases h1
      cases h2
      exact hq.tk (tkA.trans (tk6 _))
  | 1, hj =>
    cases hj
    refine ⟨rl, xs, _, rfl, rfl, hr5, sz, ?_⟩
    exact k t2 ⟨"fetch", nm, [], rr⟩ _ _ _ (fr _) (pp _) upd_same rfl (.inr ⟨rfl, rfl⟩) ⟨t2, u2, [], rfl, tk6 _ _ _ (tk5 _ _ (SqT.of g4)), tk6 _ _ _ (tkB _ _ (SqT.of g3)), rfl, fun i y q' h1 h2 => (nomatch h1)⟩ (tkA.trans (tk6 _))
section
variable {P : Program} {w : World} {K : PySem.W.Frag} {mg : Str → Option Value} {base : Heap}
abbrev NWork : List Str := ["_law_draws", "_law_found", "_law_k", "_law_belt", "_law_part", "_law_lay", "_law_fetch"]
theorem scWorkL : FnScope NWork ["_law_draws"] (defScope sWorkL) := ⟨rfl, rfl, rfl, by decide +kernel, rfl, by decide +kernel, by decide +kernel⟩
theorem ok_workL {f fK fD fN : Addr} {fd fdK fdD fdN : FuncData} (F : Fun K "_law_work" "_law_work" sWorkL f fd) (B : Blt mg)
    (GK : FnOk P w K mg base CX0 2 fK fdK ["_law_draws", "_law_xs"] (spPick K)) (mK : mg "_law_pick" = some (.ref fK)) (kK : PySem.W.keepIn K (.ref fK) = true) (bK : Binds K fdK ["_law_draws", "_law_xs"] [])
    (GD : FnOk P w K mg base CX0 1 fD fdD ["_law_draws", "_law_many"] spDraw) (mD : mg "_law_draw" = some (.ref fD)) (kD : PySem.W.keepIn K (.ref fD) = true) (bD : Binds K fdD ["_law_draws", "_law_many"] [])
    (GN : FnOk P w K mg base CX0 3 fN fdN ["_law_draws"] (spNear K)) (mN : mg "_law_value" = some (.ref fN)) (kN : PySem.W.keepIn K (.ref fN) = true) (bN : Binds K fdN ["_law_draws"] []) :
    FnOk P w K mg base CX0 4 f fd ["_law_draws"] (spWorkL K) := by
  refine F.ok scWorkL (fun vs H Q E h => ?_) (fun cdv A outer s H vs Q E hr h => ?_)
  · obtain ⟨p, rfl, _⟩ := h
    rfl
  · obtain ⟨p, rfl, hp, k⟩ := h
    have hr1 : Room 1 _ := hr.mono (by omega)
    have hr2 : Room 2 _ := hr.mono (by omega)
    refine ⟨_, pss_cons (ps_set (i := 1) scWorkL.nd rfl (.inl rfl) (pe_lst pa_nil))
      (pss_cons (ps_for PassesOwn.never rfl (pi_range1 (by rfl) B.range (pa_cons (pe_op op_add pe_int (pe_call GD hr1 rfl mD kD bD .nil pass0 (pa_cons (pv 0) (pa_cons pe_int pa_nil)))) pa_nil)) (pg_name (i := 2) scWorkL.nd rfl (Or.inl rfl))
        (pss_cons (ps_set (i := 3) scWorkL.nd rfl (.inl rfl) (pe_call GK hr2 rfl mK kK bK .nil pass0 (pa_cons (pv 0) (pa_cons (pe_lst (pa_cons pe_str (pa_cons pe_str pa_nil))) pa_nil))))
        (pss_cons (ps_set (i := 4) scWorkL.nd rfl (.inl rfl) (pe_ifExp (pt_cmpR op_gt (pe_call GD hr1 rfl mD kD bD .nil pass0 (pa_cons (pv 0) (pa_cons pe_int pa_nil))) pe_int (nomark _)) (pe_tup (pa_cons pe_str (pa_cons (pe_call GN hr rfl mN kN bN .nil pass0 (pa_cons (pv 0) pa_nil)) pa_nil))) (pe_tup (pa_cons pe_str (pa_cons pe_int pa_nil)))))
        (show L2.PSs _ _ (tTail K) from pss_cons (ps_par (i := 5) (j := 6) rfl scWorkL.nd rfl rfl (by decide) rfl rfl (pa_cons (pe_tup (pa_cons pe_str (pa_cons (pv 3) (pa_cons (pe_tup (pa_cons (pv 4) pa_nil)) (pa_cons pe_int pa_nil))))) (pa_cons (pe_tup (pa_cons pe_str (pa_cons (pv 3) (pa_cons (pe_tup pa_nil) (pa_cons (pe_call GD hr1 rfl mD kD bD .nil pass0 (pa_cons (pv 0) (pa_cons pe_int pa_nil))) pa_nil))))) pa_nil)) (by rfl))
          (pss_one (ps_expr (pe_bm PySem.F.plainAttrs_list PySem.F.slot_list_append PySem.F.type_list_append mt_append (pv 1) (pa_cons (pe_call GK hr2 rfl mK kK bK .nil pass0 (pa_cons (pv 0) (pa_cons (pe_lst (pa_cons (pv 5) (pa_cons (pv 6) pa_nil))) pa_nil))) pa_nil))))))))
      (pss_one (ps_ret (pv 1)))), ?_⟩
    obtain ⟨x0, y0, z0, hp0⟩ := hp
    refine ⟨Nat.zero_le _, fun rl hrl => ?_⟩
    have s1 := same_new (o := .lst []) hrl
    have rp : rl ≠ p := fun e => by
      rw [e, hp0] at hrl
      cases hrl
    have hp1 := s1 _ _ hp0
    have r1 : (upd H rl (.lst [])) rl = some (.lst []) := upd_same
    generalize upd H rl (.lst []) = H1 at *
    refine ⟨_, rfl, p, x0, y0, z0, 5, rfl, hp1, by decide, by decide, fun rr a1 b1 c1 lo hi => ?_⟩
    obtain ⟨m, hm, hm4⟩ : ∃ m : Nat, 1 + rr = (m : Int) ∧ m ≤ 5 := ⟨(1 + rr).toNat, by omega, by omega⟩
    refine ⟨_, _, rfl, rfl, (m : Int), by rw [← hm], by omega, by omega, ?_⟩
    have P1 : PutP p H (upd H1 p (.lst [.int a1, .int b1, .int c1])) := (PutP.same s1 ⟨_, _, _, hp0⟩).trans .put
    have r2 : (upd H1 p (.lst [.int a1, .int b1, .int c1])) rl = some (.lst []) := (upd_ne rp).trans r1
    refine for_range (lo := 0) (n := m) (fun i σ H' => ∃ (q2 q3 q4 q5 q6 : Option V) (xs : List V) (rows : List Row), σ = [some (.ref p), some (.ref rl), q2, q3, q4, q5, q6] ∧ PutP p H H' ∧ H' rl = some (.lst xs) ∧ xs.length = i ∧ rows.length = i ∧ (∀ (j : Nat) (x : V) (r : Row), xs[j]? = some x → rows[j]? = some r → RowAt K H' x r) ∧ ∀ r ∈ rows, GoodRow K H' r)
      ⟨_, _, _, _, _, [], [], rfl, P1, r2, rfl, rfl, fun j x r h => (nomatch h), fun r hr => (nomatch hr)⟩ ?_ ?_
    · rintro i σ H2 hi ⟨q2, q3, q4, q5, q6, xs, rows, rfl, P2, rl2, lx, lr, each, good⟩
      obtain ⟨x2, y2, z2, hp2⟩ := P2.p
      refine ⟨_, rfl, two_sz, fun l hl => ?_⟩
      have sl := same_new (o := .lst [.str "b", .str "c"]) hl
      have lp : l ≠ p := fun e => by
        rw [e, hp2] at hl
        cases hl
      refine ⟨p, l, x2, y2, z2, _, rfl, sl _ _ hp2, SqL.of upd_same, by show 0 < 2; decide, by show 2 ≤ 1000; decide, fun a' b' c' => SqL.of ((upd_ne lp).trans upd_same), fun j v a' b' c' hj => ?_⟩
      obtain ⟨nm, rfl, hn⟩ : ∃ nm : Str, v = .str nm ∧ nm ∈ (["b", "c"] : List Str) := by
        match j, hj with
        | 0, hj => cases hj; exact ⟨_, rfl, by decide +kernel⟩
        | 1, hj => cases hj; exact ⟨_, rfl, by decide +kernel⟩
      have P3 : PutP p H2 (upd (upd H2 l (.lst [.str "b", .str "c"])) p (.lst [.int a', .int b', .int c'])) := (PutP.same sl ⟨_, _, _, hp2⟩).trans .put
      generalize upd (upd H2 l (.lst [.str "b", .str "c"])) p (.lst [.int a', .int b', .int c']) = H3 at *
      obtain ⟨x3, y3, z3, hp3⟩ := P3.p
      -- the row, whichever its part is
      have fin : ∀ (pt : Addr) (q : Part) (H5 : Hp), PutP p H2 H5 → PartAt K H5 (.ref pt) q → (∀ v, q = .value v → ∃ d, VD K H5 3 v d) → ∀ (W : Ends), (∀ (v5 v6 : V) (H' : Hp) (xs' : List V) (rows' : List Row), PutP p H H' → H' rl = some (.lst xs') → xs'.length = i + 1 → rows'.length = i + 1 → (∀ (j : Nat) (x : V) (r : Row), xs'[j]? = some x → rows'[j]? = some r → RowAt K H' x r) → (∀ r ∈ rows', GoodRow K H' r) →
          W.nx [some (.ref p), some (.ref rl), some (.int (0 + (i : Nat))), some (.str nm), some (.ref pt), some v5, some v6] H') → tTail K W [some (.ref p), some (.ref rl), some (.int (0 + (i : Nat))), some (.str nm), some (.ref pt), q5, q6] H5 := fun pt q H5 P5 hq vq W kW => by
        have rl5 := P5.k _ _ rp rl2
        have tk25 := P5.tk (K := K) ⟨_, _, _, hp2⟩
        refine tail_ok P5.p rl5 rp (by omega) hq fun t r v5 v6 H6 fr pp hrl6 rn rk rat tk56 => ?_
        have tk26 := tk25.trans tk56
        refine kW v5 v6 H6 (xs ++ [.ref t]) (rows ++ [r]) ⟨fun b o e1 e2 => ?_, pp⟩ hrl6 (by rw [List.length_append, lx]; rfl) (by rw [List.length_append, lr]; rfl) (fun j' x' r' q1 q2 => ?_) fun r' hr' => ?_
        · by_cases c : b = rl
          · rw [c, hrl] at e2
            cases e2
          · exact fr b o e1 c (P5.k _ _ e1 (P2.k _ _ e1 e2))
        · by_cases c : j' < i
          · rw [List.getElem?_append_left (by omega)] at q1 q2
            exact (each j' x' r' q1 q2).tk tk26
          · have z := (List.getElem?_eq_some_iff.mp q1).1
            rw [List.length_append] at z
            have ej : j' = i := by
              have : j' < xs.length + 1 := z
              omega
            rw [List.getElem?_append_right (by omega), show j' - xs.length = 0 by omega] at q1
            rw [List.getElem?_append_right (by omega), show j' - rows.length = 0 by omega] at q2
            cases q1
            cases q2
            exact rat
        · rcases List.mem_append.mp hr' with hr' | hr'
          · exact (good r' hr').tk tk26
          · rw [List.mem_singleton.mp hr']
            refine ⟨fun ns => ?_, rn ▸ hn, ?_, fun v hv => ?_⟩
            · rcases rk with ⟨e1, e2⟩ | ⟨e1, e2⟩
              · rw [e1, e2]
                exact .inl ⟨rfl, _, rfl⟩
              · rw [e1, e2]
                exact .inr ⟨rfl, rfl⟩
            · rcases rk with ⟨_, e2⟩ | ⟨_, e2⟩ <;> rw [e2]
              · exact (by decide : 1 ≤ 2)
              · exact (by decide : 0 ≤ 2)
            · rcases rk with ⟨_, e2⟩ | ⟨_, e2⟩
              · rw [e2] at hv
                obtain ⟨d, vd⟩ := vq v (List.mem_singleton.mp hv).symm
                exact ⟨d, vd.tk tk56⟩
              · rw [e2] at hv
                cases hv
      refine ⟨_, rfl, p, x3, y3, z3, 3, rfl, hp3, by decide, by decide, fun r a b c lo hi => ⟨_, _, rfl, rfl, _, rfl, ?_⟩⟩
      have P4 : PutP p H2 (upd H3 p (.lst [.int a, .int b, .int c])) := P3.trans .put
      have hp4 : (upd H3 p (.lst [.int a, .int b, .int c])) p = some (.lst [.int a, .int b, .int c]) := upd_same
      generalize upd H3 p (.lst [.int a, .int b, .int c]) = H4 at *
      by_cases c0 : 0 < r
      · refine (if_pos (decide_eq_true c0)).mpr ?_
        refine ⟨_, rfl, p, rfl, P4.p, fun v dv H5 P5 vd => ⟨two_sz, fun t ht => ?_⟩⟩
        have st := same_new (o := .tup [.str "value", v]) ht
        exact fin t (.value v) _ (P4.trans (P5.trans (PutP.same st P5.p))) ⟨t, rfl, SqT.of upd_same⟩ (fun v' e => by
          cases e
          exact ⟨dv, vd.tk (TK.of st)⟩) _ fun v5 v6 H' xs' rows' g1 g2 g3 g4 g5 g6 => ⟨_, _, _, _, _, xs', rows', rfl, g1, g2, g3, g4, g5, g6⟩
      · refine (if_neg (fun z => c0 (of_decide_eq_true z))).mpr ?_
        refine ⟨two_sz, fun t ht => ?_⟩
        have st := same_new (o := .tup [.str "note", .int 0]) ht
        exact fin t (.note 0) _ (P4.trans (PutP.same st P4.p)) ⟨t, rfl, SqT.of upd_same⟩ (fun v' e => (nomatch e)) _ fun v5 v6 H' xs' rows' g1 g2 g3 g4 g5 g6 => ⟨_, _, _, _, _, xs', rows', rfl, g1, g2, g3, g4, g5, g6⟩
    · rintro σ H2 ⟨q2, q3, q4, q5, q6, xs, rows, rfl, P2, rl2, lx, lr, each, good⟩
      refine ⟨_, rfl, ?_⟩
      exact k rl rows H2 P2 hrl ⟨xs, rl2, by rw [lx, lr], each⟩ good (by omega)
end
end TW
namespace TW
open PySem PySem.Spec PyProof.Rows L2
/-- the things that a shop has where none are handed in -/
def shopKw (t0 : Addr) : List (Str × V) := [("cells", .non), ("locks", .ref t0), ("belts", .non), ("longest", .int 24), ("most", .int 400)]
abbrev psSI : List Str := ["self", "works", "cells", "locks", "belts", "longest", "most"]
abbrev FunSI (K : PySem.W.Frag) (t0 f : Addr) (fd : FuncData) : Prop := FunD K "__init__" "Shop.__init__" (defArgs sSI) (defBody sSI) (defScope sSI) [] (shopKw t0) f fd
section
variable {K : PySem.W.Frag} {t0 f : Addr} {fd : FuncData}
theorem kb_cells (F : FunSI K t0 f fd) : ∃ mv : List Value, KBn K fd psSI 2 ["cells"] (fun us ws => us ++ (ws ++ mv)) (fun vs zs => vs ++ (zs ++ [.ref t0, .non, .int 24, .int 400])) :=
  F.kbinds0 2 ["cells"] [("locks", .ref t0), ("belts", .non), ("longest", .int 24), ("most", .int 400)] (fun us mv ws => us ++ (ws ++ mv)) (by unfold shopKw; exact List.cons_ne_nil _ _) (fun q h => List.mem_cons_of_mem _ h) (fun a b c => a.append (c.append b))
    fun D doc pm an cdv ct us mv ws h1 h2 h3 => match us, mv, ws, h1, h2, h3 with
      | [_, _], [_, _, _, _], [_], _, _, _ => ⟨_, _, _, _, _, _, rfl, rfl, _, _, _, _, _, _, rfl, rfl, _, _, _, _, _, _, rfl, rfl, _, _, _, _, _, _, rfl, rfl, rfl⟩
theorem kb_locks (F : FunSI K t0 f fd) : ∃ mv : List Value, KBn K fd psSI 2 ["locks"] (fun us ws => us ++ (mv.take 1 ++ (ws ++ mv.drop 1))) (fun vs zs => vs ++ ([.non] ++ (zs ++ [.non, .int 24, .int 400]))) :=
  F.kbinds0 2 ["locks"] [("cells", .non), ("belts", .non), ("longest", .int 24), ("most", .int 400)] (fun us mv ws => us ++ (mv.take 1 ++ (ws ++ mv.drop 1))) (by unfold shopKw; exact List.cons_ne_nil _ _) (fun q h => by
      unfold shopKw
      rcases List.mem_cons.mp h with e | h
      · rw [e]; exact List.mem_cons_self ..
      · exact List.mem_cons_of_mem _ (List.mem_cons_of_mem _ h)) (fun a b c => a.append ((b.take 1).append (c.append (b.drop 1))))
    fun D doc pm an cdv ct us mv ws h1 h2 h3 => match us, mv, ws, h1, h2, h3 with
      | [_, _], [_, _, _, _], [_], _, _, _ => ⟨_, _, _, _, _, _, rfl, rfl, _, _, _, _, _, _, rfl, rfl, _, _, _, _, _, _, rfl, rfl, _, _, _, _, _, _, rfl, rfl, rfl⟩
theorem kb_none (F : FunSI K t0 f fd) : ∃ ds, Vals [.non, .ref t0, .non, .int 24, .int 400] ds ∧ Binds K fd psSI ds :=
  F.binds0 2 (by unfold shopKw; exact List.cons_ne_nil _ _) rfl fun D doc pm an cdv ct us ks h1 h2 => match us, ks, h1, h2 with
    | [_, _], [_, _, _, _, _], _, _ => ⟨_, _, _, _, _, _, rfl, rfl, _, _, _, _, _, _, rfl, rfl, _, _, _, _, _, _, rfl, rfl, _, _, _, _, _, _, rfl, rfl, _, _, _, _, _, _, rfl, rfl, rfl⟩
end
end TW
namespace TW
open PySem PySem.Spec PyProof.Rows L2 LamX
abbrev sShopL : Stmt := top 81
abbrev sWorked : Stmt := top 82
/-- a def of the text whose code object is known -/
structure FunC (K : PySem.W.Frag) (x qual : Str) (st : Stmt) (f : Addr) (fd : FuncData) (c : Addr) : Prop where
  ex : ∃ (oc : Value) (od : Option Addr) (kV doc pm : Value) (an : Option Addr) (ct : Value) (osl : Array (Option Value)),
    fd = PySem.W.fnOf x qual (defArgs st) (defBody st) (defScope st) .none kV doc pm an (.ref c) ct ∧ K.lookup f = some ⟨oc, od, .func fd, osl⟩ ∧ PySem.W.codeIn K (.ref c) qual = true
  kp : PySem.W.keepIn K (.ref f) = true
def lamE : Expr := match defBody sWorked with
  | [.Return (some e) _] => e
  | _ => .Name "" ⟨0, 0, 0, 0⟩
def retPos : Pos := match defBody sWorked with
  | [.Return _ p] => p
  | _ => ⟨0, 0, 0, 0⟩
def lamP : Arguments := match lamE with
  | .Lambda p _ _ _ => p
  | _ => defArgs sWorked
def lamB : Expr := match lamE with
  | .Lambda _ b _ _ => b
  | _ => lamE
def lamS : Scope := match lamE with
  | .Lambda _ _ s _ => s
  | _ => defScope sWorked
def lamQ : Pos := match lamE with
  | .Lambda _ _ _ p => p
  | _ => ⟨0, 0, 0, 0⟩
theorem body_eq : defBody sWorked = [.Return (some (.Lambda lamP lamB lamS lamQ)) retPos] := by kernel_rfl
abbrev qLam : Str := "_law_worked.<locals>.<lambda>"
theorem lam_body : ∃ p1 p2 p3 p4 : Pos, lamB = .Call (.Name "_law_play" p1) [.Name "_law_rows" p2, .Name "_law_hand" p3] [] p4 := ⟨_, _, _, _, rfl⟩
theorem scWorked : FnScope ["_law_rows"] ["_law_rows"] (defScope sWorked) := ⟨rfl, rfl, rfl, by decide +kernel, rfl, by decide +kernel, by decide +kernel⟩
/-- a work that goes through rows: a lambda, its code, and the cell of its rows -/
structure WorkAt (H : Hp) (g c cell rl : Addr) : Prop where
  fn : H g = some (CloV g c qLam lamP lamB lamS [("_law_rows", cell)])
  code : H c = some (CodeO c qLam)
  cell : H cell = some (CellO cell (.ref rl))
theorem CellO.nt {c : Addr} {v : V} : ∀ ps, CellO c v ≠ .tbl ps := fun ps z => (nomatch z)
theorem WorkAt.ext {H H' : Hp} {g c cell rl : Addr} (e : ExtN H H') (h : WorkAt H g c cell rl) : WorkAt H' g c cell rl :=
  ⟨e _ _ h.fn fun _ z => (nomatch z), e _ _ h.code fun _ z => (nomatch z), e _ _ h.cell fun _ z => (nomatch z)⟩
def spWorked (T : List (Addr × Str)) : Sp := fun vs H Q _ => ∃ rl : Addr, vs = [.ref rl] ∧ Tabs T H ∧ ∀ g c cell H', ExtN H H' → Tabs T H' → WorkAt H' g c cell rl → Q (.ref g) H'
theorem extN_new {H H' : Hp} {a : Addr} {o : HO} (e : ExtN H H') (h : H' a = none) : ExtN H (upd H' a o) := fun b u z n => (upd_ne (ne_of_none (e b u z n) h)).trans (e b u z n)
section
variable {P : Program} {w : World} {K : PySem.W.Frag} {mg : Str → Option Value} {base : Heap}
theorem ok_worked {f c Pt : Addr} {fd : FuncData} {T : List (Addr × Str)} (F : FunC K "_law_worked" "_law_worked" sWorked f fd c) (TB : TabB base mg c Pt) (hm : (Pt, qLam) ∈ T) (hu : ∀ p ∈ T, p.1 = Pt → p.2 = qLam) :
    FnOk P w K mg base CX0 2 f fd ["_law_rows"] (spWorked T) := by
  obtain ⟨oc, od, kV, doc, pm, an, ct, osl, rfl, lk, hcd⟩ := F.ex
  rw [body_eq] at *
  refine fn_ret (i := 0) (y := "_law_rows") lk hcd scWorked rfl (by decide +kernel) (fun vs H Q E h => ?_) (fun A outer s H vs Q E hr h => ?_)
  · obtain ⟨rl, rfl, _⟩ := h
    rfl
  · obtain ⟨rl, rfl, hT, k⟩ := h
    refine ⟨_, .ref rl, rfl, pe_cloV (T := T) TB rfl hm hu (by exact fun y hy e => (NdefX.ndef_free (sc := defScope sWorked) (fr := []) (by decide +kernel) y hy e).elim (fun z => cell_has z) (fun z => absurd rfl (scWorked.nofree _ (PySem.mem_of_lookup z)))), hT, fun g c' H1 e1 T1 n1 c1 cell hcell f1 f2 => ?_⟩
    have ec : (s.heap.objs.size + 1 : Nat) = cell := by
      have z : List.lookup ("_law_rows" : Str) [(("_law_rows" : Str), (s.heap.objs.size + 1 : Nat))] = some cell := hcell
      exact Option.some.inj z
    have key : ∀ n : Nat, cloFrom [(("_law_rows" : Str), n)] lamS.names [] = [(("_law_rows" : Str), n)] := fun n => rfl
    have ne : cell ≠ g := fun z => by
      rw [z, upd_same] at f2
      cases f2
    have f3 : H1 cell = none := by
      rw [upd_ne ne] at f2
      exact f2
    refine k g c' cell _ (extN_new (extN_new e1 n1) f2) ?_ ⟨?_, ?_, upd_same⟩
    · exact fun z hz => (T1 z hz).ext fun b u e => by
        rw [upd_ne (ne_of_none e f3), upd_ne (ne_of_none e n1)]
        exact e
    · rw [upd_ne (Ne.symm ne), upd_same]
      have z := key (s.heap.objs.size + 1)
      rw [ec] at z
      rw [← z, ← ec]
      rfl
    · rw [upd_ne (ne_of_none c1 f3), upd_ne (ne_of_none c1 n1)]
      exact c1
end
end TW
namespace TW
open PySem PySem.Spec PyProof.Rows L2 LamX
theorem kb_four {K : PySem.W.Frag} {t0 f : Addr} {fd : FuncData} (F : FunSI K t0 f fd) : ∃ mv : List Value, KBn K fd psSI 2 ["cells", "locks", "belts", "most"] (fun us ws => us ++ (ws.take 3 ++ (mv ++ ws.drop 3))) (fun vs zs => vs ++ (zs.take 3 ++ ([.int 24] ++ zs.drop 3))) :=
  F.kbinds0 2 ["cells", "locks", "belts", "most"] [("longest", .int 24)] (fun us mv ws => us ++ (ws.take 3 ++ (mv ++ ws.drop 3))) (by unfold shopKw; exact List.cons_ne_nil _ _) (fun q h => by
      unfold shopKw
      rw [List.mem_singleton.mp h]
      exact List.mem_cons_of_mem _ (List.mem_cons_of_mem _ (List.mem_cons_of_mem _ (List.mem_cons_self ..)))) (fun a b c => a.append ((c.take 3).append (b.append (c.drop 3))))
    fun D doc pm an cdv ct us mv ws h1 h2 h3 => match us, mv, ws, h1, h2, h3 with
      | [_, _], [_], [_, _, _, _], _, _, _ => ⟨_, _, _, _, _, _, rfl, rfl, rfl⟩
theorem mk_shop {K : PySem.W.Frag} {CS : Addr} {n : Nat} {SI : SIn} {wv cv lv bv : V} {G2 : Hp} {x dx : Addr} {Q : VK} {E : XK} (Z : Good K G2 n SI wv cv lv bv) (h1 : G2 x = none) (h2 : G2 dx = none) (ne : dx ≠ x)
    (k : ∀ (wt cd lt bd : Addr) (G : Hp), Same G2 G → ShopAt K CS G x (SI.ss dx wt cd lt bd) → Q .non G) :
    spSI K CS n (.ref x :: [wv, cv, lv, bv, .int SI.lo, .int SI.mo]) (upd (upd G2 dx (.own x)) x (.ins CS dx [])) Q E := by
  have s1 : Same G2 (upd (upd G2 dx (.own x)) x (.ins CS dx [])) := fun b o e => by
    rw [upd_ne (ne_of_none e h1), upd_ne (ne_of_none e h2)]
    exact e
  refine ⟨x, dx, SI, wv, cv, lv, bv, rfl, upd_same, ?_, fun wt cd lt bd G f A => k wt cd lt bd G (fun b o e => f b o (ne_of_none e h1) (s1 b o e)) A⟩
  exact { Z with
    w := by
      obtain ⟨a, e1, h⟩ := Z.w
      exact ⟨a, e1, h.imp (fun z => s1.seq z) (fun z => seqT_same s1 z)⟩
    c := Z.c.imp (fun z => z) (fun ⟨a, e1, h⟩ => ⟨a, e1, h.elim (fun h => .inl (s1 _ _ h)) fun ⟨o, h⟩ => .inr ⟨o, s1 _ _ h⟩⟩)
    l := by
      obtain ⟨a, e1, h⟩ := Z.l
      exact ⟨a, e1, h.imp (fun z => s1.seq z) (fun z => seqT_same s1 z)⟩
    b := Z.b.imp (fun z => z) (fun ⟨a, e1, h⟩ => ⟨a, e1, h.elim (fun h => .inl (s1 _ _ h)) fun ⟨o, h⟩ => .inr ⟨o, s1 _ _ h⟩⟩)
    cv := fun kv h H2 tk => Z.cv kv h H2 fun a xs q => tk a xs (seqT_same s1 q) }
theorem extN_tk {K : PySem.W.Frag} {H H' : Hp} (e : ExtN H H') : TK K H H' := fun a xs q => by
  rcases q with (q | ⟨o, q⟩) | q
  · exact .inl (.inl (e _ _ q fun _ z => (nomatch z)))
  · exact .inl (.inr ⟨o, e _ _ q fun _ z => (nomatch z)⟩)
  · exact .inr q
theorem RowsAt.extN {K : PySem.W.Frag} {H H' : Hp} {rl : Addr} {rows : List Row} (e : ExtN H H') (h : RowsAt K H rl rows) : RowsAt K H' rl rows := by
  obtain ⟨xs, h1, h2, h3⟩ := h.ex
  exact ⟨xs, e _ _ h1 fun _ z => (nomatch z), h2, fun i x r a b => (h3 i x r a b).tk (extN_tk e)⟩
theorem tabs_lst {T : List (Addr × Str)} {H : Hp} {p : Addr} {xs ys : List V} (hp : H p = some (.lst xs)) (h : LamX.Tabs T H) : LamX.Tabs T (upd H p (.lst ys)) := fun z hz => by
  obtain ⟨ps, h1, h2, h3⟩ := h z hz
  refine ⟨ps, (upd_ne (ne_of h1 hp (by intro z; cases z))).trans h1, h2, fun pos cv e => ?_⟩
  obtain ⟨c, e1, e2⟩ := h3 pos cv e
  exact ⟨c, e1, (upd_ne (ne_of e2 hp (by intro z; cases z))).trans e2⟩
theorem tabs_same {T : List (Addr × Str)} {H H' : Hp} (e : Same H H') (h : LamX.Tabs T H) : LamX.Tabs T H' := fun z hz => (h z hz).ext e
/-- the shop of a plan: its works -/
def ShopWorks (K : PySem.W.Frag) (B : Addr → Prop) (H : Hp) (rowss : List (List Row)) (gs : List Addr) : Prop := gs.length = rowss.length ∧ ∀ (i : Nat) (g : Addr) (rows : List Row), gs[i]? = some g → rowss[i]? = some rows → ∃ c cell rl, WorkAt H g c cell rl ∧ ¬ B rl ∧ RowsAt K H rl rows
def spShopL (K : PySem.W.Frag) (CS : Addr) (n : Nat) (T : List (Addr × Str)) : Sp := fun vs H Q _ => ∃ (pl : Addr) (B : Addr → Prop) (rowss : List (List Row)) (sizes : List (Key × V)) (bN : List Str), vs = [.ref pl] ∧ PlanAt K B H pl rowss sizes ∧ Tabs T H ∧ 1 ≤ rowss.length ∧ rowss.length ≤ 4 ∧ sizes.map (·.1) = bN.map Sum.inr ∧ bN.Nodup ∧ (∀ z ∈ bN, isW z = true) ∧ bN.length ≤ 60 ∧ (∀ kv ∈ sizes, SizeV kv.2) ∧
  ∀ (sh : Addr) (S : SS) (gs : List Addr) (H' : Hp), ExtN H H' → Tabs T H' → ShopAt K CS H' sh S → S.works = gs.map V.ref → S.many = (rowss.length : Nat) → S.cells = [] → S.locks = [] → S.beltN = bN → S.belts = sizes → ShopWorks K B H' rowss gs → Q (.ref sh) H'
section
variable {P : Program} {w : World} {K : PySem.W.Frag} {mg : Str → Option Value} {base : Heap} {CS t0 : Addr} {n N : Nat} {T : List (Addr × Str)}
theorem scShopL : FnScope ["_law_plan", "_law_works", "_law_boxes", "_law_bolts", "_law_bands", "_law_rows"] ["_law_plan"] (defScope sShopL) := ⟨rfl, rfl, rfl, by decide +kernel, rfl, by decide +kernel, by decide +kernel⟩
theorem ok_shopL {f fI fW : Addr} {fd fdI fdW : FuncData} (F : Fun K "_law_shop" "_law_shop" sShopL f fd) (B : Blt mg)
    (MS : Mk K CS fI) (GI : FnOk P w K mg base CX0 N fI fdI psSI (spSI K CS n)) (mS : mg "Shop" = some (.ref CS)) (FI : FunSI K t0 fI fdI)
    (GW : FnOk P w K mg base CX0 2 fW fdW ["_law_rows"] (spWorked T)) (mW : mg "_law_worked" = some (.ref fW)) (kW : PySem.W.keepIn K (.ref fW) = true) (bW : Binds K fdW ["_law_rows"] []) (hN : 2 ≤ N) :
    FnOk P w K mg base CX0 (N + 2) f fd ["_law_plan"] (spShopL K CS n T) := by
  refine F.ok scShopL (fun vs H Q E h => ?_) (fun cdv A outer s H vs Q E hr h => ?_)
  · obtain ⟨pl, Bn, rowss, sizes, bN, rfl, _⟩ := h
    rfl
  · obtain ⟨pl, Bn, rowss, sizes, bN, rfl, hP, hT, w1, w4, ec, nd, isw, lc, vc, k⟩ := h
    have hr2 : Room 2 _ := hr.mono (by omega)
    obtain ⟨_, kb⟩ := kb_four FI
    refine ⟨_, pss_cons (ps_asg (pv 0) (pg_tup (n := 4) rfl (pgs_cons (pg_name (i := 1) scShopL.nd rfl (Or.inl rfl)) (pgs_cons (pg_name (i := 2) scShopL.nd rfl (Or.inl rfl)) (pgs_cons (pg_name (i := 3) scShopL.nd rfl (Or.inl rfl)) (pgs_cons (pg_name (i := 4) scShopL.nd rfl (Or.inl rfl)) pgs_nil))))))
      (pss_one (ps_ret (pe_makeK (n := 1) MS GI hr rfl mS kb pass0 (pa_cons (pe_lc (own := [("_law_rows", 5)]) rfl scShopL.nd (pi_list (pv 1)) (blkOk_by (N := ["_law_plan", "_law_works", "_law_boxes", "_law_bolts", "_law_bands", "_law_rows"]) (sc := defScope sShopL) (by decide +kernel))
          (fun _ _ _ _ _ => pg_name (i := 5) scShopL.nd rfl (Or.inl rfl)) (fun _ _ _ _ _ => pts_nil) (te := tCall (spWorked T) [] E0 (tCons (tVar 5) tNil)) (fun _ _ _ _ _ => by exact pe_call GW hr2 rfl mW kW bW .nil pass0 (pa_cons (pv 5) pa_nil))) pa_nil)
        (pk_cons (pv 2) (pk_cons (pv 3) (pk_cons (pv 4) (pk_cons pe_int pk_nil))))))), ?_⟩
    obtain ⟨wl, bx, lk, bd, wxs, h1, ⟨h2, n2⟩, h3, h4, h5, ⟨h6, n6⟩, h7⟩ := hP.ex
    refine ⟨_, rfl, pl, _, rfl, h1, rfl, _, _, rfl, _, _, rfl, _, _, rfl, _, _, rfl, rfl, ?_⟩
    refine ⟨_, rfl, wl, rfl, ⟨_, SqL.of h2⟩, fun D hD => ?_⟩
    refine lc_it (walk_list (K := K) (a := wl) (xs := wxs)) (fun i H' => ExtN H H' ∧ Tabs T H' ∧ ∃ gs : List Addr, gs.length = i ∧ H' D = some (.lst (gs.map V.ref)) ∧ ∀ (j : Nat) (g : Addr) (rows : List Row), gs[j]? = some g → rowss[j]? = some rows → ∃ c cell rl, WorkAt H' g c cell rl ∧ ¬ Bn rl ∧ RowsAt K H rl rows)
      ⟨extN_new (ExtN.refl H) hD, tabs_same (same_new hD) hT, [], rfl, upd_same, fun j g rows h => (nomatch h)⟩ (fun i H' _ p => SqL.of (p.1 _ _ h2 fun _ z => (nomatch z))) (fun i x H1 H' hi p y => ?_) (fun H1 p => ?_)
    · obtain ⟨rfl, hx⟩ := y
      obtain ⟨e1, T1, gs, lg, hd, each⟩ := p
      obtain ⟨rows, hrow⟩ : ∃ rows, rowss[i]? = some rows := ⟨_, List.getElem?_eq_getElem (h3 ▸ hi)⟩
      obtain ⟨rl, rfl, nb, hR⟩ := h4 i x rows hx hrow
      refine ⟨rfl, yesI (iteT ?_)⟩
      refine ⟨_, rfl, rl, rfl, T1, fun g c' cell H2 e2 T2 wk => ?_⟩
      have hd2 := e2 _ _ hd fun _ z => (nomatch z)
      have nl : ∀ {b : Addr} {o : HO}, H2 b = some o → (∀ ys, o ≠ .lst ys) → (upd H2 D (.lst (gs.map V.ref ++ [.ref g]))) b = some o := fun {b o} e n => (upd_ne (fun z => by rw [z, hd2] at e; exact n _ (Option.some.inj e).symm)).trans e
      have wk3 : ∀ {g' c cell rl : Addr}, WorkAt H2 g' c cell rl → WorkAt (upd H2 D (.lst (gs.map V.ref ++ [.ref g]))) g' c cell rl := fun W => ⟨nl W.fn fun _ z => (nomatch z), nl W.code fun _ z => (nomatch z), nl W.cell fun _ z => (nomatch z)⟩
      have ext : ExtN H (upd H2 D (.lst (gs.map V.ref ++ [.ref g]))) := fun b o z n => (upd_ne (ne_of_none z hD)).trans (e2 _ _ (e1 _ _ z n) n)
      refine ⟨gs.map V.ref, hd2, ?_, ext, tabs_lst hd2 T2, gs ++ [g], by rw [List.length_append, lg]; rfl, by rw [List.map_append]; exact upd_same, fun j g' rows' hj hr' => ?_⟩
      · rw [List.length_map, lg]
        exact Nat.lt_of_lt_of_le (by omega : i < 5) (small_sz (n := 5) (by decide))
      · by_cases c : j < gs.length
        · rw [List.getElem?_append_left c] at hj
          obtain ⟨c', cell', rl', g1, g2, _⟩ := each j g' rows' hj hr'
          obtain ⟨x', hx'⟩ : ∃ x', wxs[j]? = some x' := ⟨_, List.getElem?_eq_getElem (by omega)⟩
          obtain ⟨c', cell', rl', g1, g2, g3⟩ := each j g' rows' hj hr'
          exact ⟨c', cell', rl', wk3 (g1.ext e2), g2, g3⟩
        · have z := (List.getElem?_eq_some_iff.mp hj).1
          rw [List.length_append] at z
          have ej : j = gs.length := by
            have : j < gs.length + 1 := z
            omega
          rw [ej, List.getElem?_append_right (Nat.le_refl _), Nat.sub_self] at hj
          obtain rfl := (Option.some.inj (show some g = some g' from hj))
          rw [ej, lg] at hr'
          obtain rfl := Option.some.inj (hrow.symm.trans hr')
          exact ⟨c', cell, rl, wk3 wk, nb, hR⟩
    · obtain ⟨e1, T1, gs, lg, hd, each⟩ := p
      refine ⟨_, rfl, _, rfl, _, rfl, rfl, rfl, fun x dx a1 a2 a3 => ?_⟩
      refine mk_shop (SI := ⟨gs.map V.ref, [], [], [], sizes, bN, 24, 2000⟩) (wv := .ref D) (cv := .ref bx) (lv := .ref lk) (bv := .ref bd) ⟨⟨D, rfl, .inl (SqL.of hd)⟩, ?_, ?_, .inr ⟨bx, rfl, .inl (e1 _ _ h5 fun _ z => (nomatch z))⟩, rfl, ⟨lk, rfl, .inl (SqL.of (e1 _ _ h6 fun _ z => (nomatch z)))⟩, .inr ⟨bd, rfl, .inl (e1 _ _ h7 fun _ z => (nomatch z))⟩, ec, ?_, ?_, ?_, fun kv hkv => (nomatch hkv), ?_, ⟨by show (1 : Int) ≤ 24; decide, by show (24 : Int) ≤ 40; decide⟩, ⟨by show (1 : Int) ≤ 2000; decide, by show (2000 : Int) ≤ 2000; decide⟩⟩ a1 a2 a3 fun wt cd lt bd' G sG A => ⟨rfl, ?_⟩
      · show 1 ≤ (gs.map V.ref).length
        rw [List.length_map, lg, h3]
        exact w1
      · show (gs.map V.ref).length ≤ 4
        rw [List.length_map, lg, h3]
        exact w4
      · exact nd
      · exact isw
      · exact Nat.le_trans lc (by decide)
      · exact vc
      · have eG : ExtN H G := ExtN.trans e1 (ExtN.of sG)
        refine k x _ gs G eG (tabs_same sG T1) A rfl ?_ rfl rfl rfl rfl ⟨by rw [lg, h3], fun i g rows hg hr => ?_⟩
        · show (((gs.map V.ref).length : Nat) : Int) = _
          rw [List.length_map, lg, h3]
        · obtain ⟨c', cell, rl, g1, g2, g3⟩ := each i g rows hg hr
          exact ⟨c', cell, rl, g1.ext (ExtN.of sG), g2, g3.extN eG⟩
end
end TW
namespace TW
open PySem PySem.Spec PyProof.Rows L2
/-- what a step answers and leaves on the belts, new objects beside -/
def DoesJ (K : PySem.W.Frag) (w : World) (CT pS : Addr) (S : Addr → Option Sp) (me : Int) (pend : V) (H : Hp) (T : TS) (a : V) (bk : List Str) (bc : Str → List V) : Prop :=
  ∀ (T2 : TS) (t2 : Addr) (G : Hp) (Q : VK), TK K H G → ThingsAt K CT G t2 T2 → T2.cells = T.cells → T2.holders = T.holders → T2.rows = T.rows → T2.sizes = T.sizes → (∀ G' rk, Same G G' → RowsD K G' rk bk bc → Q a (upd G' T2.rd (.dK rk))) → spDoStep K w pS S [.ref t2, .int me, pend] G Q (fun _ _ _ => False)
/-- a run a step further -/
structure WentR (K : PySem.W.Frag) (H : Hp) (R R' : RS) (n : Nat) (bk : List Str) (bc : Str → List V) (y' : PS) : Prop where
  sh : R'.sh = R.sh
  pl : R'.pl = R.pl
  dn : R'.dn = R.dn
  c : R'.T.cells = R.T.cells
  h : R'.T.holders = R.T.holders
  s : R'.T.sizes = R.T.sizes
  r : RowsD K H R'.T.rows bk bc
  places : R'.places = R.places.set n y'
  done : ∃ t, R'.done = R.done ++ [t]
theorem tk_dK {K : PySem.W.Frag} {H : Hp} {d : Addr} {c c' : List (Key × V)} (h : H d = some (.dK c)) : TK K H (upd H d (.dK c')) := fun _ _ q => sqT_but h (fun _ z => (nomatch z)) (fun _ _ z => (nomatch z)) But.put q
/-- what stands as long as all but instances does -/
def JSt (J : Hp → Prop) : Prop := ∀ H H', (∀ b o, H b = some o → (∀ c d fs, o ≠ .ins c d fs) → H' b = some o) → J H → J H'
theorem JSt.same {J : Hp → Prop} (j : JSt J) {H H' : Hp} (e : Same H H') (h : J H) : J H' := j H H' (fun b o q _ => e b o q) h
theorem JSt.but {J : Hp → Prop} (j : JSt J) {H H' : Hp} {r c d : Addr} {fs : List (Str × V)} (e : But r H H') (ho : H r = some (.ins c d fs)) (h : J H) : J H' := j H H' (fun b o q n => e b o (fun z => by
  rw [z, ho] at q
  exact n _ _ _ (Option.some.inj q).symm) q) h
/-- a work, called with a new hand, does as B says -/
def WorkJ (P : Program) (w : World) (K : PySem.W.Frag) (mg : Str → Option Value) (base : Heap) (C CS CH : Addr) (kw n : Nat) (S : SS) (g : Addr) (me : Nat) (J : Hp → Prop) (Adm : List V → Prop) (B : Beh) : Prop :=
  ∃ s1, FnR P w K mg base (L2.CX P w) kw g s1 ∧ PySem.W.FnAt g base ∧ ∀ (sh an : Addr) (ans : List V) (hd dx md wl : Addr) (H0 G : Hp), ShopAt K CS H0 sh S → J H0 → Base3 H0 hd md wl G → Adm ans → HandAt K C G hd dx (hs0 (me : Int) sh an ans md wl) →
    spUp s1 [.ref hd] G
      (fun v H2 => ∃ h, HandAt K C H2 hd dx h ∧ Keep3 hd md wl G H2 ∧ ((h.halted = true ∧ B H2 ans h.pend h.fin h.words) ∨ (h.halted = false ∧ Vn K H2 n v true ∧ ∀ H3 t, Same H2 H3 → H3 t = some (.tup [.str "told", v]) → B H3 ans h.pend (.ref t) h.words)))
      (fun cls d H2 => cls = .ref CH ∧ ∃ h, HandAt K C H2 hd dx h ∧ Keep3 hd md wl G H2 ∧ h.halted = true ∧ B H2 ans h.pend h.fin h.words)
section
variable {P : Program} {w : World} {K : PySem.W.Frag} {mg : Str → Option Value} {base : Heap} {C CS CP CH CV : Addr} {kw n : Nat}
theorem comeJ_use {S : SS} {g : Addr} {me : Nat} {J : Hp → Prop} {Adm : List V → Prop} {B : Beh} (hB : BehS K B) (hx : PySem.W.exmOne K (.ref CH) (.ref CH) = some true) (Wk : WorkJ P w K mg base C CS CH kw n S g me J Adm B) {H : Hp} {sh an : Addr} {ans : List V} (hS : ShopAt K CS H sh S) (hJ : J H) (ha : SqT K H an ans)
    (hw : S.works[me]? = some (.ref g)) (adm : Adm ans) {Q : VK} {E : XK}
    (k : ∀ (pl dp tw : Addr) (pend fin : V) (words : List V) (H' : Hp), Same H H' → H pl = none → H' pl = some (.ins CP dp (pF (.ref an) pend fin (.ref tw))) → SqT K H' tw words → B H' ans pend fin words → Q (.ref pl) H') :
    spCome P w K mg base C CS CP CH CV kw n [.ref sh, .int (me : Int), .ref an] H Q E := by
  obtain ⟨s1, hF, hA, run⟩ := Wk
  refine ⟨sh, an, me, ans, S, g, s1, rfl, hS, ha, hw, hF, hA, fun hd dx md wl G n1 n2 n3 n4 sG hG => ?_⟩
  have old : ∀ {H2 : Hp}, Keep3 hd md wl G H2 → Same H H2 := fun {H2} kp b o e => kp b o (ne_of_none e n1) (ne_of_none e n3) (ne_of_none e n4) (sG b o e)
  have fin : ∀ (h : HS) (H2 : Hp) (fv : V), Same H H2 → (∀ H3, Same H2 H3 → B H3 ans h.pend fv h.words) → AfterP CP an Q { h with fin := fv } H2 := fun h H2 fv sm b pl dp tw G' p1 p2 _ _ _ s2 o1 o2 => by
    refine k pl dp tw h.pend fv h.words G' (sm.trans s2) ?_ o1 (SqT.of o2) (b G' s2)
    cases e : H pl with
    | none => rfl
    | some o =>
      rw [sm _ _ e] at p1
      cases p1
  obtain ⟨Q0, E0, z1, z2, z3⟩ := run sh an ans hd dx md wl H G hS hJ (fun b o e => ⟨ne_of_none e n1, ne_of_none e n3, ne_of_none e n4, sG b o e⟩) adm hG
  refine ⟨Q0, E0, z1, fun v H2 q => ?_, fun cls d H2 q => ?_⟩
  · obtain ⟨h, hA2, kp, q⟩ := z2 v H2 q
    refine ⟨h, hA2, fun ht => ?_, fun hf => ?_⟩
    · rcases q with ⟨_, b⟩ | ⟨e, _⟩
      · exact fin h H2 h.fin (old kp) fun H3 s3 => hB _ _ _ _ _ _ (.of s3) b
      · rw [e] at ht
        cases ht
    · rcases q with ⟨e, _⟩ | ⟨_, vn, b⟩
      · rw [e] at hf
        cases hf
      · refine ⟨true, vn, fun H3 s3 => ⟨fun z => (nomatch z), fun _ t ht => ?_⟩⟩
        have s4 : Same H3 (upd H3 t (.tup [.str "told", v])) := same_new ht
        have hA4 := hA2.same (s3.trans s4)
        have ne : t ≠ hd := fun e => by
          rw [e, s3 _ _ hA2.ob] at ht
          cases ht
        have tk : TK K (upd H3 t (.tup [.str "told", v])) (upd (upd H3 t (.tup [.str "told", v])) hd (.ins C dx { h with fin := .ref t }.fs)) := fun a xs q => seqT_ins hA4.ob q
        refine fin h _ (.ref t) (fun c o e => ?_) fun H5 s5 => hB _ _ _ _ _ _ (tk.trans (.of s5)) (b _ t (s3.trans s4) upd_same)
        rw [upd_ne (ne_of_none e n1)]
        exact s4 _ _ (s3 _ _ (old kp _ _ e))
  · obtain ⟨rfl, h, hA2, kp, ht, b⟩ := z3 cls d H2 q
    exact ⟨true, hx, fun _ => ⟨h, hA2, ht, fin h H2 h.fin (old kp) fun H3 s3 => hB _ _ _ _ _ _ (.of s3) b⟩, fun z => (nomatch z)⟩
end
section
variable {P : Program} {w : World} {K : PySem.W.Frag} {mg : Str → Option Value} {base : Heap} {C CS CP CH CV CR CT CW CC pS : Addr} {kw m : Nat} {S : Addr → Option Sp} {Rel : Hp → V → V → Bool → Prop}
theorem goJ_use {SSh : SS} {g : Addr} {n : Nat} {J : Hp → Prop} {Adm : List V → Prop} {B : Beh} (hB : BehS K B) (hx : PySem.W.exmOne K (.ref CH) (.ref CH) = some true) (Wk : WorkJ P w K mg base C CS CH kw m SSh g n J Adm B) (Js : JSt J) {H : Hp} {r : Addr} {R : RS} {y : PS} {a : V} {bk : List Str} {bc : Str → List V}
    (hI : RunI K CR CT CP H r R) (hS : ShopAt K CS H R.sh SSh) (hJ : J H) (ey : R.places[n]? = some y) (hw : SSh.works[n]? = some (.ref g)) (can : CanGo K Rel H R.T y.pend true) (adm : Adm (y.ans ++ [a])) (do_ : DoesJ K w CT pS S (n : Int) y.pend H R.T a bk bc)
    (few1 : y.ans.length + 1 ≤ 100000) (few2 : R.done.length < sizeLine) (nh : R.T.rows ≠ R.T.holders) (nr : R.T.rows ≠ R.T.cells) {Q : VK} {E : XK}
    (k : ∀ (R' : RS) (y' : PS) (H' : Hp), But3 r R.pl R.dn H H' → RunI K CR CT CP H' r R' → WentR K H' R R' n bk bc y' → y'.ans = y.ans ++ [a] → B H' y'.ans y'.pend y'.fin y'.words → Q a H') :
    spGo P w K CR CT CP CW CC pS S Rel (spCome P w K mg base C CS CP CH CV kw m) [.ref r, .int (n : Int)] H Q E := by
  have hR := hI.at_
  have mem := List.mem_of_getElem? ey
  have hn := (List.getElem?_eq_some_iff.mp ey).1
  refine ⟨r, R, .int (n : Int), true, rfl, hR, whl_i, fun z => (nomatch z), fun _ => ⟨n, rfl, fun z => absurd ⟨by omega, by omega⟩ z, fun n' y2 en ey2 => ?_⟩⟩
  obtain rfl : n = n' := by omega
  obtain rfl : y = y2 := Option.some.inj (ey.symm.trans ey2)
  refine ⟨true, can, fun H1 s1 => ⟨fun z => (nomatch z), fun _ t2 dx cd hd rd G0 n1 n2 n3 n4 n5 sG0 hT0 => ?_⟩⟩
  refine do_ { R.T with dx := dx, cd := cd, hd := hd, rd := rd } t2 G0 _ (TK.of (s1.trans sG0)) hT0 rfl rfl rfl rfl fun G rk sG1 rd1 => ?_
  have sG := sG0.trans sG1
  have hT := hT0.same sG1
  have s2 : Same H (upd G rd (.dK rk)) := fun b o e => by
    rw [upd_ne (ne_of_none (s1 _ _ e) n5)]
    exact sG _ _ (s1 _ _ e)
  have hc : G cd = some (.dK R.T.cells) := hT.c
  have hh : G hd = some (.dK R.T.holders) := hT.h
  have hr : G rd = some (.dK R.T.rows) := hT.r
  have rd2 : RowsD K (upd G rd (.dK rk)) rk bk bc := rd1.tk (tk_dK hr)
  have hT2 : ThingsAt K CT (upd G rd (.dK rk)) t2 { R.T with dx := dx, cd := cd, hd := hd, rd := rd, rows := rk } := by
    refine ⟨?_, ?_, ?_, upd_same, s2 _ _ hR.t.s⟩
    · exact (upd_ne (ne_of hT.ob hr (by intro z; cases z))).trans hT.ob
    · exact (upd_ne (ne_of hc hr (by intro z; injection z with z; exact nr z.symm))).trans hc
    · exact (upd_ne (ne_of hh hr (by intro z; injection z with z; exact nh z.symm))).trans hh
  refine ⟨s2 _ _ hR.ob, (hR.e y mem).same s2, few1, fun an2 H3 s3 ha => ?_⟩
  have s4 := s2.trans s3
  refine comeJ_use hB hx Wk (hS.same s4) (Js.same s4 hJ) ha hw adm fun pl dp tw pend fin words H4 s5 hpl o4 w4 b4 => ?_
  have s6 : Same H H4 := s4.trans s5
  have q1 := s6 _ _ hR.ob
  have q2 := s6 _ _ hR.p
  have q3 := s6 _ _ hR.d
  have q4 := s6 _ _ (hR.e y mem).ob
  refine ⟨pl, rfl, q1, q2, q3, hI.ne, few2, q4, ne_of q4 q1 pF_rF, fun t ht => ?_⟩
  have z1 : r ≠ R.pl := ne_of q1 q2 (by intro z; cases z)
  have z2 : r ≠ R.dn := ne_of q1 q3 (by intro z; cases z)
  have g1 : goHp CR r R n t2 pl H4 r = some (.ins CR R.dx (rF (.ref R.sh) (.ref t2) (.ref R.pl) (.ref R.dn))) := (upd_ne z1).trans upd_same
  have g2 : goHp CR r R n t2 pl H4 R.pl = some (.lst ((R.places.map fun x => V.ref x.p).set n (.ref pl))) := upd_same
  have g0 : ∀ b o, b ≠ r → b ≠ R.pl → H4 b = some o → goHp CR r R n t2 pl H4 b = some o := fun b o e1 e2 e => (upd_ne e2).trans ((upd_ne e1).trans e)
  have bF : But3 r R.pl R.dn H4 (upd (upd (goHp CR r R n t2 pl H4) t (.tup [.int (n : Int), y.pend, a])) R.dn (.lst (R.done ++ [.ref t]))) := fun b o e1 e2 e3 e => by
    have z := g0 b o e1 e2 e
    rw [upd_ne e3, upd_ne (ne_of_none z ht)]
    exact z
  have ep : (R.places.map fun x => V.ref x.p).set n (.ref pl) = (R.places.set n ⟨pl, dp, an2, y.ans ++ [a], pend, fin, tw, words⟩).map fun x => V.ref x.p := by
    rw [List.map_set]
  have hR4 : RunAt K CR CT CP H4 r R := hR.same s6
  have tk := run_tk hR4 bF
  have td : t ≠ R.dn := fun e => by
    rw [e] at ht
    rw [show goHp CR r R n t2 pl H4 R.dn = some (.lst R.done) from g0 _ _ (Ne.symm z2) hI.ne q3] at ht
    cases ht
  have u1 : upd (upd (goHp CR r R n t2 pl H4) t (.tup [.int (n : Int), y.pend, a])) R.dn (.lst (R.done ++ [.ref t])) r = some (.ins CR R.dx (rF (.ref R.sh) (.ref t2) (.ref R.pl) (.ref R.dn))) := by
    rw [upd_ne z2, upd_ne (ne_of_none g1 ht)]
    exact g1
  have u2 : upd (upd (goHp CR r R n t2 pl H4) t (.tup [.int (n : Int), y.pend, a])) R.dn (.lst (R.done ++ [.ref t])) R.pl = some (.lst ((R.places.set n ⟨pl, dp, an2, y.ans ++ [a], pend, fin, tw, words⟩).map fun x => V.ref x.p)) := by
    rw [upd_ne (Ne.symm hI.ne), upd_ne (ne_of_none g2 ht), g2, ep]
  have T4 : ThingsAt K CT H4 t2 { R.T with dx := dx, cd := cd, hd := hd, rd := rd, rows := rk } := hT2.same (s3.trans s5)
  have kp : ∀ {b : Addr} {o : HO}, H4 b = some o → (∀ a b c d, o ≠ .ins CR R.dx (rF a b c d)) → (∀ ys, o ≠ .lst ys) → (upd (upd (goHp CR r R n t2 pl H4) t (.tup [.int (n : Int), y.pend, a])) R.dn (.lst (R.done ++ [.ref t]))) b = some o := fun {b o} e e1 e2 =>
    bF b o (ne_of e q1 (e1 _ _ _ _)) (ne_of e q2 (e2 _)) (ne_of e q3 (e2 _)) e
  refine k ⟨R.dx, R.sh, t2, R.pl, R.dn, { R.T with dx := dx, cd := cd, hd := hd, rd := rd, rows := rk }, R.places.set n ⟨pl, dp, an2, y.ans ++ [a], pend, fin, tw, words⟩, R.done ++ [.ref t]⟩ ⟨pl, dp, an2, y.ans ++ [a], pend, fin, tw, words⟩ _ (fun b o e1 e2 e3 e => bF b o e1 e2 e3 (s6 _ _ e)) ⟨⟨u1, ?_, u2, fun x hx => ?_, upd_same⟩, hI.ne⟩
    ⟨rfl, rfl, rfl, rfl, rfl, rfl, (rd2.tk (TK.of (s3.trans s5))).tk tk, rfl, .ref t, rfl⟩ rfl (hB _ _ _ _ _ _ tk b4)
  · refine ⟨kp T4.ob (fun _ _ _ _ => tF_rF) (fun _ z => (nomatch z)), kp T4.c (fun _ _ _ _ z => (nomatch z)) (fun _ z => (nomatch z)), kp T4.h (fun _ _ _ _ z => (nomatch z)) (fun _ z => (nomatch z)), kp T4.r (fun _ _ _ _ z => (nomatch z)) (fun _ z => (nomatch z)), kp T4.s (fun _ _ _ _ z => (nomatch z)) (fun _ z => (nomatch z))⟩
  · rcases List.mem_or_eq_of_mem_set hx with h | rfl
    · exact place_but hR4 bF (hR4.e x h)
    · exact place_but hR4 bF ⟨o4, seqT_same s5 ha, w4⟩
end
section
variable {P : Program} {w : World} {K : PySem.W.Frag} {mg : Str → Option Value} {base : Heap} {C CS CP CH CV CR CT : Addr} {kw n : Nat}
theorem riJ_use {S : SS} {m : Nat} (Bs : Nat → Beh) {J : Hp → Prop} (Js : JSt J) (Ad : Nat → List V → Prop) (gs : Nat → Addr) (hx : PySem.W.exmOne K (.ref CH) (.ref CH) = some true) (hB : ∀ i, i < m → BehS K (Bs i)) (hA : ∀ i, i < m → Ad i []) (hw : ∀ i, i < m → S.works[i]? = some (.ref (gs i)))
    (Wk : ∀ i, i < m → WorkJ P w K mg base C CS CH kw n S (gs i) i J (Ad i) (Bs i)) {H : Hp} {r dx sh : Addr} (ho : H r = some (.ins CR dx [])) (hS : ShopAt K CS H sh S) (hJ : J H) (hm : S.many = (m : Int)) (few : m ≤ 1000) (n1 : S.locks.Nodup) (n2 : S.beltN.Nodup) (l1 : S.locks.length ≤ 1000) (l2 : S.belts.length ≤ 1000) {Q : VK} {E : XK}
    (k : ∀ (R : RS) (H' : Hp), But r H H' → RunI K CR CT CP H' r R → R.sh = sh → R.T.cells = S.cells → R.T.holders = S.locks.map (fun s => (Sum.inr s, V.non)) → R.T.rows.map (·.1) = S.beltN.map Sum.inr → (∀ p ∈ R.T.rows, ∃ a, p.2 = .ref a ∧ SqT K H' a []) → R.T.sizes = S.belts → R.places.length = m →
      (∀ j x, R.places[j]? = some x → x.ans = [] ∧ Bs j H' [] x.pend x.fin x.words) → R.done = [] → H R.pl = none → H R.dn = none → Q .non H') :
    spRI K CR CS CT (spCome P w K mg base C CS CP CH CV kw n) [.ref r, .ref sh] H Q E := by
  have hsr : sh ≠ r := ne_of hS.ob ho (by
    intro z
    injection z with z1 z2 z3
    unfold sF at z3
    cases z3)
  refine ⟨r, dx, sh, S, m, rfl, ho, hm, few, ?_⟩
  have b0 : But r H (upd H r (.ins CR dx [("shop", .ref sh)])) := .put
  have sB : ∀ {G G' : Hp}, But r G G' → (∃ fs, G r = some (.ins CR dx fs)) → ShopAt K CS G sh S → ShopAt K CS G' sh S := fun {G G'} b ⟨fs, e⟩ A =>
    ⟨b _ _ hsr A.ob, sqT_but e ins_ntup.1 ins_ntup.2 b A.w, b _ _ (ne_of A.c e (by intro z; cases z)) A.c, A.cn, sqT_but e ins_ntup.1 ins_ntup.2 b A.l, b _ _ (ne_of A.b e (by intro z; cases z)) A.b, A.bn⟩
  have S0 := sB b0 ⟨_, ho⟩ hS
  refine ⟨sh, S, rfl, S0, n1, n2, l1, l2, fun t2 tdx cd hd rd rows G f1 f2 f3 f4 sG hT hk hr => ?_⟩
  have or : G r = some (.ins CR dx [("shop", .ref sh)]) := sG _ _ upd_same
  refine ⟨or, S0.same sG, hsr, fun D hD => ?_⟩
  have b1 : But r H G := b0.trans (But.of sG)
  refine ⟨fun i H1 acc => ∃ ps : List PS, acc = ps.map (fun x => V.ref x.p) ∧ ps.length = i ∧ (∀ j x, ps[j]? = some x → PlaceAt K CP H1 x ∧ x.ans = [] ∧ Bs j H1 [] x.pend x.fin x.words) ∧ (∀ b o, b ≠ r → b ≠ D → G b = some o → H1 b = some o) ∧ H1 r = some (.ins CR dx [("shop", .ref sh), ("things", .ref t2)]) ∧ H1 D = some (.lst acc) ∧ D ≠ r, ?_, ?_, ?_⟩
  · have e : D ≠ r := fun e => by
      rw [e, upd_same] at hD
      cases hD
    exact ⟨[], rfl, rfl, fun j x z => (nomatch z), fun b o e1 e2 z => by rw [upd_ne e2, upd_ne e1]; exact z, (upd_ne (Ne.symm e)).trans upd_same, upd_same, e⟩
  · rintro i H1 acc hi ⟨ps, rfl, hl, each, f, hr1, hd1, dr⟩ _ t ht
    have gD : G D = none := by
      rw [upd_ne dr] at hD
      exact hD
    have bG : But r G H1 := fun b o e1 e => f b o e1 (ne_of_none e gD) e
    have st := same_new (o := .tup []) ht
    have S1 := (sB bG ⟨_, or⟩ (S0.same sG)).same st
    refine comeJ_use (hB i hi) hx (Wk i hi) S1 (Js.same st (Js.but (b1.trans bG) ho hJ)) (SqT.of upd_same) (hw i hi) (hA i hi) fun pl dp tw pend fin words H2 s5 hpl o4 w4 b4 => ?_
    have sm := st.trans s5
    have hd2 := sm _ _ hd1
    refine ⟨hd2, ps ++ [⟨pl, dp, t, [], pend, fin, tw, words⟩], by rw [List.map_append]; rfl, by rw [List.length_append, hl]; rfl, fun j x e => ?_, fun b o e1 e2 e => by rw [upd_ne e2]; exact sm _ _ (f b o e1 e2 e), (upd_ne (Ne.symm dr)).trans (sm _ _ hr1), upd_same, dr⟩
    by_cases c : j < ps.length
    · rw [List.getElem?_append_left c] at e
      obtain ⟨q1, q2, q3⟩ := each j x e
      exact ⟨place_put hd2 (q1.same sm), q2, hB j (Nat.lt_trans (hl ▸ c) hi) _ _ _ _ _ _ ((TK.of sm).trans (tk_lst hd2)) q3⟩
    · have z := (List.getElem?_eq_some_iff.mp e).1
      rw [List.length_append] at z
      have ej : j = ps.length := by
        have : j < ps.length + 1 := z
        omega
      rw [ej, List.getElem?_append_right (Nat.le_refl _), Nat.sub_self] at e
      obtain rfl := (Option.some.inj (show some _ = some x from e)).symm
      rw [ej, hl]
      exact ⟨place_put hd2 ⟨o4, seqT_same s5 (SqT.of upd_same), w4⟩, rfl, hB i hi _ _ _ _ _ _ (tk_lst hd2) b4⟩
  · rintro H1 acc hl ⟨ps, rfl, hl2, each, f, hr1, hd1, dr⟩ _
    refine ⟨hr1, fun l hlf => ?_⟩
    have gD : G D = none := by
      rw [upd_ne dr] at hD
      exact hD
    have fr := upd_free hlf
    have ld : l ≠ D := fun e => by
      rw [e, hd1] at fr
      cases fr.2
    have fin : ∀ b o, b ≠ r → H1 b = some o → (upd (upd (upd H1 r (.ins CR dx [("shop", .ref sh), ("things", .ref t2), ("places", .ref D)])) l (.lst [])) r (.ins CR dx (rF (.ref sh) (.ref t2) (.ref D) (.ref l)))) b = some o := fun b o e1 e => by
      rw [upd_ne e1, upd_ne (fun z => by rw [z, fr.2] at e; cases e), upd_ne e1]
      exact e
    have g1 : ∀ b o, b ≠ r → G b = some o → H1 b = some o := fun b o e1 e => f b o e1 (ne_of_none e gD) e
    have tk : TK K H1 (upd (upd (upd H1 r (.ins CR dx [("shop", .ref sh), ("things", .ref t2), ("places", .ref D)])) l (.lst [])) r (.ins CR dx (rF (.ref sh) (.ref t2) (.ref D) (.ref l)))) := fun a xs q => sqT_but hr1 ins_ntup.1 ins_ntup.2 fin q
    refine k ⟨dx, sh, t2, D, l, ⟨tdx, cd, S.cells, hd, S.locks.map (fun s => (Sum.inr s, V.non)), rd, rows, S.bd, S.belts⟩, ps, []⟩ _ (fun b o e1 e => fin b o e1 (g1 b o e1 (b1 b o e1 e))) ⟨⟨upd_same, ⟨?_, ?_, ?_, ?_, ?_⟩, fin _ _ dr hd1, fun x hx => ?_, ?_⟩, ld⟩ rfl rfl rfl hk (fun p hp => ?_) rfl (hl2) (fun j x e => ?_) rfl ?_ ?_
    · exact fin _ _ (ne_of hT.ob or tF_shop) (g1 _ _ (ne_of hT.ob or tF_shop) hT.ob)
    · exact fin _ _ (ne_of hT.c or (by intro z; cases z)) (g1 _ _ (ne_of hT.c or (by intro z; cases z)) hT.c)
    · exact fin _ _ (ne_of hT.h or (by intro z; cases z)) (g1 _ _ (ne_of hT.h or (by intro z; cases z)) hT.h)
    · exact fin _ _ (ne_of hT.r or (by intro z; cases z)) (g1 _ _ (ne_of hT.r or (by intro z; cases z)) hT.r)
    · exact fin _ _ (ne_of hT.s or (by intro z; cases z)) (g1 _ _ (ne_of hT.s or (by intro z; cases z)) hT.s)
    · obtain ⟨j, hj, e⟩ := List.mem_iff_getElem.mp hx
      have q := (each j x (by rw [List.getElem?_eq_getElem hj, e])).1
      exact ⟨fin _ _ (ne_of q.ob hr1 pF_shop) q.ob, tk _ _ q.a, tk _ _ q.w⟩
    · exact (upd_ne fr.1).trans upd_same
    · obtain ⟨a, e1, e2⟩ := hr p hp
      exact ⟨a, e1, tk _ _ (sqT_but or ins_ntup.1 ins_ntup.2 g1 e2)⟩
    · obtain ⟨_, q2, q3⟩ := each j x e
      have hj : j < m := hl2 ▸ (List.getElem?_eq_some_iff.mp e).1
      exact ⟨q2, hB j hj _ _ _ _ _ _ tk q3⟩
    · show H D = none
      cases e : H D with
      | none => rfl
      | some o =>
        rw [b1 _ _ dr e] at gD
        cases gD
    · show H l = none
      cases e : H l with
      | none => rfl
      | some o =>
        rw [f _ _ fr.1 ld (b1 _ _ fr.1 e)] at fr
        cases fr.2
end
end TW
namespace TW
open PySem PySem.Spec PyProof.Rows L2 LamX
/-- the steps of the wishes about belts -/
structure StepKs (K : PySem.W.Frag) (w : World) (CT pS : Addr) (S : Addr → Option Sp) : Prop where
  lay : ∃ f, KDct K w pS "lay" (.ref f) ∧ S f = some (spStep K CT (dLay K))
  fetch : ∃ f, KDct K w pS "fetch" (.ref f) ∧ S f = some (spStep K CT (dFetch K))
section
variable {K : PySem.W.Frag} {w : World} {CT pS : Addr} {S : Addr → Option Sp} {n : Nat}
theorem doesJ {H : Hp} {T : TS} {S0 S1 : Sto} {wt : Addr} {kind name : Str} {args : List V} {a : V} {me : Int} (SK : StepKs K w CT pS S) (hw : SqT K H wt (.str kind :: .str name :: args)) (dm : DoM S0 name kind args a S1) (rd : RowsD K H T.rows S0.bk S0.bc) (so : StoOk K H S0) (nk : name ∈ S0.bk) :
    DoesJ K w CT pS S me (.ref wt) H T a S1.bk S1.bc := by
  intro T2 t2 G Q tk hT e1 e2 e3 e4 hq
  have hw2 := tk _ _ hw
  have rdG := rd.tk tk
  obtain ⟨a0, ha, qa⟩ := rdG.at_ name nk
  have le := so.len name nk
  have few : T2.rows.length < sizeLine := by
    rw [e3, rd.len]
    exact Nat.lt_of_lt_of_le (by have := so.few; omega : S0.bk.length < 61) (small_sz (n := 61) (by decide))
  cases dm with
  | lay =>
    obtain ⟨f, kd, hs⟩ := SK.lay
    refine ⟨.ref t2, .int me, wt, f, "lay", _, _, rfl, hw2, kd, hs, t2, wt, me, T2, "lay", name, _, rfl, hT, hw2, _, [], a0, _, rfl, by rw [e3]; exact ha, qa, by omega, few, fun p H' s q => ?_⟩
    rw [e3]
    exact hq H' _ s ((rdG.tk (TK.of s)).put nk q)
  | fetch hc =>
    obtain ⟨f, kd, hs⟩ := SK.fetch
    rw [hc] at qa le
    refine ⟨.ref t2, .int me, wt, f, "fetch", _, _, rfl, hw2, kd, hs, t2, wt, me, T2, "fetch", name, _, rfl, hT, hw2, _, a0, _, by rw [e3]; exact ha, qa, by simp only [List.length_cons] at le; omega, few, fun p H' s q => ?_⟩
    rw [e3]
    exact hq H' _ s ((rdG.tk (TK.of s)).put nk q)
theorem canGo_of {H : Hp} {T : TS} {S0 : Sto} {wt : Addr} {kind name : Str} {args : List V} (hw : SqT K H wt (.str kind :: .str name :: args)) (ck : CellKind kind args) (rd : RowsD K H T.rows S0.bk S0.bc) (es : T.sizes = S0.sizes) (so : StoOk K H S0) (nk : name ∈ S0.bk) : CanGo K (RD K n) H T (.ref wt) (letsM S0 kind name) := by
  have no : kind ≠ "until" ∧ kind ≠ "take" := by
    rcases ck with ⟨rfl, _⟩ | ⟨rfl, _⟩ <;> decide +kernel
  obtain ⟨a0, ha, qa⟩ := rd.at_ name nk
  obtain ⟨z, hz, zk⟩ := so.size name nk
  refine .inr ⟨wt, kind, _, rfl, hw, fun c => absurd c no.1, fun c => absurd c no.2, fun c => ⟨name, args, rfl, z, a0, S0.bc name, by rw [es]; exact hz, ha, qa, ?_⟩, fun c => ⟨name, args, a0, S0.bc name, rfl, ha, qa, ?_⟩, fun c1 c2 c3 c4 => ?_⟩
  · subst c
    have el : letsM S0 "lay" name = room S0 name := if_pos rfl
    rw [el]
    unfold room
    rw [hz]
    rcases zk with rfl | ⟨i, rfl⟩
    · exact .inl ⟨rfl, rfl⟩
    · exact .inr ⟨i, rfl, rfl⟩
  · subst c
    have el : letsM S0 "fetch" name = !(S0.bc name).isEmpty := if_neg (by decide +kernel)
    rw [el]
    cases S0.bc name <;> rfl
  · rcases ck with ⟨rfl, _⟩ | ⟨rfl, _⟩
    · exact absurd rfl c3
    · exact absurd rfl c4
/-- answers that a work may be given: values of the plan -/
def AdP (K : PySem.W.Frag) (H0 : Hp) (rows : List Row) : List V → Prop := fun ans => ans.length ≤ rows.length ∧ ∀ a ∈ ans, ∃ d, VD K H0 3 a d
/-- a run of a plan: what lies on the belts, the answers so far -/
structure RunK (K : PySem.W.Frag) (CR CT CP : Addr) (rowss : List (List Row)) (sh : Addr) (H : Hp) (r : Addr) (R : RS) (S : Sto) (anss : List (List V)) : Prop where
  run : RunI K CR CT CP H r R
  sh : R.sh = sh
  c : R.T.cells = []
  h : R.T.holders = []
  w : RowsD K H R.T.rows S.bk S.bc
  z : R.T.sizes = S.sizes
  len : R.places.length = rowss.length
  dn : R.done.length = (anss.map List.length).sum
  pl : ∀ (j : Nat) (x : PS) (rows : List Row) (ans : List V), R.places[j]? = some x → rowss[j]? = some rows → anss[j]? = some ans → x.ans = ans ∧ BPlay K rows H x.ans x.pend x.fin x.words
theorem RunK.keep {CR CT CP p : Addr} {rowss : List (List Row)} {sh : Addr} {H H' : Hp} {r : Addr} {R : RS} {S : Sto} {anss : List (List V)} (Z : RunK K CR CT CP rowss sh H r R S anss) (e : ∀ b o, b ≠ p → H b = some o → H' b = some o) (d : DK H H') (nr : r ≠ p) (n1 : R.pl ≠ p) (n2 : R.dn ≠ p) (np : ∃ xs, H p = some (.lst xs)) : RunK K CR CT CP rowss sh H' r R S anss := by
  obtain ⟨⟨⟨a1, ⟨t1, t2, t3, t4, t5⟩, a3, a4, a5⟩, ne⟩, b1, b2, b3, b4, b4', b5, b6, b7⟩ := Z
  obtain ⟨xs, hp⟩ := np
  have k : ∀ {b : Addr} {o : HO}, H b = some o → (∀ ys, o ≠ .lst ys) → H' b = some o := fun {b o} q n => e b o (fun z => by
    rw [z, hp] at q
    exact n _ (Option.some.inj q).symm) q
  exact ⟨⟨⟨e _ _ nr a1, ⟨k t1 fun _ z => (nomatch z), k t2 fun _ z => (nomatch z), k t3 fun _ z => (nomatch z), k t4 fun _ z => (nomatch z), k t5 fun _ z => (nomatch z)⟩, e _ _ n1 a3, fun x hx => ⟨k (a4 x hx).ob fun _ z => (nomatch z), d.tk _ _ (a4 x hx).a, d.tk _ _ (a4 x hx).w⟩, e _ _ n2 a5⟩, ne⟩,
    b1, b2, b3, b4.tk d.tk, b4', b5, b6, fun j x rows ans h1 h2 h3 => ⟨(b7 j x rows ans h1 h2 h3).1, bplay_s _ _ _ _ _ _ d.tk (b7 j x rows ans h1 h2 h3).2⟩⟩
theorem RunK.nx {CR CT CP : Addr} {rowss : List (List Row)} {sh : Addr} {H H' : Hp} {r : Addr} {R : RS} {S : Sto} {anss : List (List V)} (e : ∀ b o, H b = some o → (∀ φ, o ≠ .ext φ) → H' b = some o) (Z : RunK K CR CT CP rowss sh H r R S anss) : RunK K CR CT CP rowss sh H' r R S anss := by
  have tk : TK K H H' := fun a xs q => by
    rcases q with (q | ⟨o, q⟩) | q
    · exact .inl (.inl (e _ _ q fun _ z => (nomatch z)))
    · exact .inl (.inr ⟨o, e _ _ q fun _ z => (nomatch z)⟩)
    · exact .inr q
  obtain ⟨⟨⟨a1, ⟨t1, t2, t3, t4, t5⟩, a3, a4, a5⟩, ne⟩, b1, b2, b3, b4, b4', b5, b6, b7⟩ := Z
  exact ⟨⟨⟨e _ _ a1 fun _ z => (nomatch z), ⟨e _ _ t1 fun _ z => (nomatch z), e _ _ t2 fun _ z => (nomatch z), e _ _ t3 fun _ z => (nomatch z), e _ _ t4 fun _ z => (nomatch z), e _ _ t5 fun _ z => (nomatch z)⟩, e _ _ a3 fun _ z => (nomatch z),
    fun x hx => ⟨e _ _ (a4 x hx).ob fun _ z => (nomatch z), tk _ _ (a4 x hx).a, tk _ _ (a4 x hx).w⟩, e _ _ a5 fun _ z => (nomatch z)⟩, ne⟩,
    b1, b2, b3, b4.tk tk, b4', b5, b6, fun j x rows ans h1 h2 h3 => ⟨(b7 j x rows ans h1 h2 h3).1, bplay_s _ _ _ _ _ _ tk (b7 j x rows ans h1 h2 h3).2⟩⟩
/-- which works of a run can go -/
theorem RunK.can {CR CT CP : Addr} {rowss : List (List Row)} {sh : Addr} {H : Hp} {r : Addr} {R : RS} {S : Sto} {anss : List (List V)} {f : Nat → Bool} (Z : RunK K CR CT CP rowss sh H r R S anss) (la : anss.length = rowss.length) (ok : ∀ rows ∈ rowss, RowsOk K H n S.bk rows) (so : StoOk K H S) (hc : ∀ (i : Nat) (rows : List Row) (ans : List V), rowss[i]? = some rows → anss[i]? = some ans → f i = canM S rows ans) :
    ∀ (i : Nat) (y : PS), R.places[i]? = some y → CanGo K (RD K n) H R.T y.pend (f i) := fun i y hy => by
  have hi := (List.getElem?_eq_some_iff.mp hy).1
  have hl := Z.len
  obtain ⟨rows, hrow⟩ : ∃ rows, rowss[i]? = some rows := ⟨_, List.getElem?_eq_getElem (by omega)⟩
  obtain ⟨ans, hans⟩ : ∃ ans, anss[i]? = some ans := ⟨_, List.getElem?_eq_getElem (by omega)⟩
  obtain ⟨ea, _, hb⟩ := Z.pl i y rows ans hy hrow hans
  rw [ea] at hb
  rw [hc i rows ans hrow hans]
  unfold canM
  rcases hb with ⟨lt, _, t, r', er', ep, hw⟩ | ⟨e, ep, _⟩
  · have ro := ok rows (List.mem_of_getElem? hrow)
    have mem := List.mem_of_getElem? er'
    have ck := ro.kind r' mem (notesAt rows ans ans.length)
    rw [rowWish_cell ck.ne.2.2.2.2] at hw
    rw [ep, er']
    exact canGo_of hw ck Z.w Z.z so (ro.name r' mem)
  · rw [List.getElem?_eq_none (by omega)]
    exact .inl ⟨ep, rfl⟩
end
end TW
namespace TW
open PySem PySem.Spec PyProof.Rows L2 LamX
/-- the values and the rows of a plan stand -/
def JPlan (K : PySem.W.Frag) (H0 : Hp) (rowss : List (List Row)) (rF : Nat → Addr) : Hp → Prop := fun H => TK K H0 H ∧ ∀ (i : Nat) (rows : List Row), rowss[i]? = some rows → RowsAt K H (rF i) rows
theorem jplan_st {K : PySem.W.Frag} {H0 : Hp} {rowss : List (List Row)} {rF : Nat → Addr} : JSt (JPlan K H0 rowss rF) := fun H H' e ⟨t, h⟩ => by
  have tk : TK K H H' := fun a xs q => by
    rcases q with (q | ⟨o, q⟩) | q
    · exact .inl (.inl (e _ _ q fun _ _ _ z => (nomatch z)))
    · exact .inl (.inr ⟨o, e _ _ q fun _ _ _ z => (nomatch z)⟩)
    · exact .inr q
  refine ⟨t.trans tk, fun i rows hr => ?_⟩
  obtain ⟨xs, q1, q2, q3⟩ := (h i rows hr).ex
  exact ⟨xs, e _ _ q1 fun _ _ _ z => (nomatch z), q2, fun a b c d f => (q3 a b c d f).tk tk⟩
section
variable {P : Program} {w : World} {K : PySem.W.Frag} {mg : Str → Option Value} {base : Heap} {C CS CP CH CV CR CT CW CC pS : Addr} {S : Addr → Option Sp} {kw n : Nat}
theorem work_play {S0 : SS} {me i : Nat} {g c cell : Addr} {rowss : List (List Row)} {rows : List Row} {rF : Nat → Addr} {H0 : Hp} {fP : Addr} {fdP : FuncData} (hi : rowss[i]? = some rows)
    (Z : CloAt base g c qLam lamP lamB lamS [("_law_rows", cell)] "_law_hand" ["_law_rows"] [.ref (rF i)])
    (GP : FnOk P w K mg base (L2.CX P w) kw fP fdP ["_law_rows", "_law_hand"] (spPlay K C CS CH n)) (mP : mg "_law_play" = some (.ref fP)) (kP : PySem.W.keepIn K (.ref fP) = true) (bP : Binds K fdP ["_law_rows", "_law_hand"] []) (hn : n = 3) (ok : RowsOk K H0 n S0.beltN rows) :
    WorkJ P w K mg base C CS CH (kw + 1) n S0 g me (JPlan K H0 rowss rF) (AdP K H0 rows) (BPlay K rows) := by
  obtain ⟨p1, p2, p3, p4, eb⟩ := lam_body
  rw [eb] at Z
  have hat : PySem.W.FnAt g base := by
    obtain ⟨pm, ctv, e⟩ := Z.fn
    exact ⟨_, _, _, _, e⟩
  have v0 : lamS.names.lookup ("_law_hand" : Str) = some .local := rfl
  have v1 : lamS.names.lookup ("_law_rows" : Str) = some .free := rfl
  have gl : lamS.names.lookup ("_law_play" : Str) = some .globalImplicit := rfl
  refine ⟨_, fnR_clo (tb := fun E => tCall (spPlay K C CS CH n) [] E (tCons (tVar 1) (tCons (tVar 0) tNil))) Z fun A outer s H E hr => pe_call GP hr gl mP kP bP .nil (fun pins σ H s e s' I c => passAt (takes_of (E := E) rfl rfl rfl rfl) σ pins H s e s' I c) (pa_cons (pe_var (i := 1) rfl (.inr (.inr v1))) (pa_cons (pe_var (i := 0) rfl (.inl v0)) pa_nil)), hat, fun sh an ans hd dx md wl HA G hS hJ hB3 ⟨a1, a2⟩ hG => ?_⟩
  refine ⟨_, _, ⟨.ref hd, rfl, _, rfl, _, rfl, rF i, hd, dx, md, wl, sh, an, me, ans, rows, S0, HA, rfl, hJ.2 i rows hi, hG, hS, hB3, ok.tk hJ.1, a1, fun a ha => ?_, fun H2 h2 A k3 hh bn => ⟨rfl, h2, A, k3, hh, bn⟩, fun H2 h2 A k3 hf ep ew el => ?_⟩, fun _ _ q => q, fun _ _ _ e => e⟩
  · obtain ⟨d, q⟩ := a2 a ha
    rw [hn]
    exact (q.tk hJ.1).vns
  · refine ⟨h2, A, k3, .inr ⟨hf, .non _, fun H3 t s3 ht => ⟨ew, .inr ⟨el, ep, t, rfl, SqT.of ht⟩⟩⟩⟩
/-- the works of a shop of a plan -/
def WorksK (P : Program) (w : World) (K : PySem.W.Frag) (mg : Str → Option Value) (base : Heap) (C CS CH : Addr) (kw n : Nat) (S0 : SS) (rowss : List (List Row)) (rF : Nat → Addr) (H0 : Hp) : Prop := ∀ (i : Nat) (rows : List Row), rowss[i]? = some rows → ∃ g, S0.works[i]? = some (.ref g) ∧ WorkJ P w K mg base C CS CH kw n S0 g i (JPlan K H0 rowss rF) (AdP K H0 rows) (BPlay K rows)
theorem DoM.keep {S S' : Sto} {nm kind : Str} {args : List V} {a : V} (h : DoM S nm kind args a S') : S'.bk = S.bk ∧ S'.sizes = S.sizes := by
  cases h <;> exact ⟨rfl, rfl⟩
theorem go_play {S0 : SS} {rowss : List (List Row)} {rF : Nat → Addr} {H0 H : Hp} {sh r : Addr} {R : RS} {S1 S2 : Sto} {anss : List (List V)} {k : Nat} {rows : List Row} {ans : List V} {rw_ : Row} {a : V} {Q : VK} {E : XK} (hx : PySem.W.exmOne K (.ref CH) (.ref CH) = some true) (Wk : WorksK P w K mg base C CS CH kw n S0 rowss rF H0) (SK : StepKs K w CT pS S)
    (hS : ShopAt K CS H sh S0) (hJ : JPlan K H0 rowss rF H) (Z : RunK K CR CT CP rowss sh H r R S1 anss) (la : anss.length = rowss.length) (hrow : rowss[k]? = some rows) (hans : anss[k]? = some ans) (hr1 : rows[ans.length]? = some rw_) (few : rows.length ≤ 1000) (ok : RowsOk K H n S1.bk rows) (so : StoOk K H S1) (nb : S1.bk ≠ []) (fd : (anss.map List.length).sum ≤ 1000)
    (go : canM S1 rows ans = true) (dm : DoM S1 rw_.name rw_.kind (rw_.parts.map (partV (notesAt rows ans ans.length))) a S2)
    (va : ∀ x ∈ ans ++ [a], ∃ d, VD K H0 3 x d)
    (cont : ∀ (R' : RS) (H' : Hp), But3 r R.pl R.dn H H' → R'.pl = R.pl → R'.dn = R.dn → RunK K CR CT CP rowss sh H' r R' S2 (anss.set k (ans ++ [a])) → Q a H') :
    spGo P w K CR CT CP CW CC pS S (RD K n) (spCome P w K mg base C CS CP CH CV kw n) [.ref r, .int (k : Nat)] H Q E := by
  obtain ⟨y, ey⟩ : ∃ y, R.places[k]? = some y := ⟨_, List.getElem?_eq_getElem (by rw [Z.len]; exact (List.getElem?_eq_some_iff.mp hrow).1)⟩
  obtain ⟨ea, _, eb⟩ := Z.pl k y rows ans ey hrow hans
  obtain ⟨g, hg, hW⟩ := Wk k rows hrow
  have lt : ans.length < rows.length := (List.getElem?_eq_some_iff.mp hr1).1
  rw [ea] at eb
  rcases eb with ⟨_, _, wt, r', er', hp, hwt⟩ | ⟨e, _⟩
  case inr => omega
  obtain rfl := Option.some.inj (hr1.symm.trans er')
  have mem := List.mem_of_getElem? hr1
  have ck := ok.kind rw_ mem (notesAt rows ans ans.length)
  rw [rowWish_cell ck.ne.2.2.2.2] at hwt
  have hR := Z.run.at_
  have nr : R.T.rows ≠ [] := fun z => by
    have l := Z.w.len
    rw [z] at l
    exact nb (List.eq_nil_of_length_eq_zero l.symm)
  have eg : letsM S1 rw_.kind rw_.name = true := by
    unfold canM at go
    rw [hr1] at go
    exact go
  have cg := canGo_of (n := n) hwt ck Z.w Z.z so (ok.name rw_ mem)
  rw [eg] at cg
  refine goJ_use (n := k) (a := a) (bk := S2.bk) (bc := S2.bc) (SSh := S0) bplay_s hx hW jplan_st Z.run (by rw [Z.sh]; exact hS) hJ ey hg (by rw [hp]; exact cg) ⟨?_, fun x hx => va x (by rw [ea] at hx; exact hx)⟩ (by rw [hp]; exact doesJ SK hwt dm Z.w so (ok.name rw_ mem)) (by rw [ea]; omega) ?_ (by rw [Z.h]; exact nr) (by rw [Z.c]; exact nr) fun R' y' H' b3 RI went ey' hb => ?_
  · rw [List.length_append, ea]
    exact lt
  · rw [Z.dn]
    exact Nat.lt_of_lt_of_le (Nat.lt_succ_of_le fd) (small_sz (n := 1001) (by decide))
  · refine cont R' H' b3 went.pl went.dn ⟨RI, went.sh.trans Z.sh, went.c.trans Z.c, went.h.trans Z.h, went.r, (went.s.trans Z.z).trans dm.keep.2.symm, by rw [went.places, List.length_set]; exact Z.len, ?_, fun j x rows' ans' h1 h2 h3 => ?_⟩
    · obtain ⟨t', e⟩ := went.done
      rw [e, List.length_append, Z.dn]
      have := sum_set List.length (ans ++ [a]) anss k ans hans
      rw [List.length_append] at this
      show _ + 1 = _
      have l1 : ([a] : List V).length = 1 := rfl
      omega
    · rw [went.places] at h1
      rcases at_set h1 with ⟨rfl, rfl, _⟩ | ⟨ne, h1⟩
      · rcases at_set h3 with ⟨_, rfl, _⟩ | ⟨z, _⟩
        · obtain rfl := Option.some.inj (hrow.symm.trans h2)
          exact ⟨by rw [ey', ea], hb⟩
        · exact absurd rfl z
      · rcases at_set h3 with ⟨z, _⟩ | ⟨_, h3⟩
        · exact absurd z ne
        · obtain ⟨q1, q2⟩ := Z.pl j x rows' ans' h1 h2 h3
          exact ⟨q1, bplay_s _ _ _ _ _ _ (run_tk hR b3) q2⟩
theorem new_runK {S0 : SS} {rowss : List (List Row)} {rF : Nat → Addr} {H0 H : Hp} {sh r dx : Addr} {bk : List Str} {Q : VK} {E : XK} (hx : PySem.W.exmOne K (.ref CH) (.ref CH) = some true) (Wk : WorksK P w K mg base C CS CH kw n S0 rowss rF H0)
    (hS : ShopAt K CS H sh S0) (hJ : JPlan K H0 rowss rF H) (ho : H r = some (.ins CR dx [])) (hm : S0.many = (rowss.length : Nat)) (few : rowss.length ≤ 1000) (ec : S0.cells = []) (el : S0.locks = []) (eb : S0.beltN = bk) (nd : bk.Nodup) (lb : bk.length ≤ 60)
    (cont : ∀ (R' : RS) (H' : Hp), But r H H' → H R'.pl = none → H R'.dn = none → RunK K CR CT CP rowss sh H' r R' (emp S0.belts bk) (rowss.map fun _ => []) → Q .non H') :
    spRI K CR CS CT (spCome P w K mg base C CS CP CH CV kw n) [.ref r, .ref sh] H Q E := by
  have pick : ∃ (gs : Nat → Addr) (rs : Nat → List Row), ∀ i, i < rowss.length → rowss[i]? = some (rs i) ∧ S0.works[i]? = some (.ref (gs i)) ∧ WorkJ P w K mg base C CS CH kw n S0 (gs i) i (JPlan K H0 rowss rF) (AdP K H0 (rs i)) (BPlay K (rs i)) := by
    have W2 : ∀ i, ∃ q : Addr × List Row, i < rowss.length → rowss[i]? = some q.2 ∧ S0.works[i]? = some (.ref q.1) ∧ WorkJ P w K mg base C CS CH kw n S0 q.1 i (JPlan K H0 rowss rF) (AdP K H0 q.2) (BPlay K q.2) := fun i => by
      by_cases h : i < rowss.length
      · obtain ⟨g, q⟩ := Wk i rowss[i] (List.getElem?_eq_getElem h)
        exact ⟨(g, rowss[i]), fun _ => ⟨List.getElem?_eq_getElem h, q⟩⟩
      · exact ⟨(0, []), fun z => absurd z h⟩
    exact ⟨fun i => (W2 i).choose.1, fun i => (W2 i).choose.2, fun i hi => (W2 i).choose_spec hi⟩
  obtain ⟨gs, rs, hg⟩ := pick
  have lbs : S0.belts.length ≤ 1000 := by
    have z := congrArg List.length hS.bn
    rw [List.length_map, List.length_map, eb] at z
    omega
  refine riJ_use (S := S0) (m := rowss.length) (fun i => BPlay K (rs i)) jplan_st (fun i => AdP K H0 (rs i)) gs hx (fun _ _ => bplay_s) (fun i _ => ⟨Nat.zero_le _, fun a ha => (nomatch ha)⟩) (fun i hi => (hg i hi).2.1) (fun i hi => (hg i hi).2.2) ho hS hJ hm few (by rw [el]; exact List.nodup_nil) (by rw [eb]; exact nd) (by rw [el]; exact Nat.zero_le _) lbs fun R H' but RI esh ec' eh er erows es elen each ed f1 f2 => ?_
  refine cont R H' but f1 f2 ⟨RI, esh, by rw [ec', ec], by rw [eh, el]; rfl, ⟨er.trans (by rw [eb]; rfl), fun nm m => ?_⟩, es, elen, ?_, fun j x rows ans h1 h2 h3 => ?_⟩
  · obtain ⟨v, hv⟩ := valV_mem (kvs := R.T.rows) (k := Sum.inr nm) (by rw [er, eb]; exact List.mem_map.mpr ⟨nm, m, rfl⟩)
    obtain ⟨a, e1, e2⟩ := erows _ (valV_in hv)
    exact ⟨a, hv.trans (congrArg some e1), e2⟩
  · rw [ed, List.map_map]
    exact (sum_zero rowss).symm
  · obtain ⟨q1, q2⟩ := each j x h1
    have hj := (List.getElem?_eq_some_iff.mp h2).1
    obtain rfl := Option.some.inj (h2.symm.trans (hg j hj).1)
    have ea : ans = [] := by
      rw [List.getElem?_map] at h3
      obtain ⟨_, _, e⟩ := Option.map_eq_some_iff.mp h3
      exact e.symm
    rw [ea, q1]
    exact ⟨rfl, q2⟩
end
end TW
namespace L2
open PySem PySem.Spec PyProof.Rows
section
variable {X : Cx} {pins : List (Addr × Obj)} {σ : St} {H : Hp} {s : Shared} {L : List Addr}
/-- behind the call what L holds is tracked again; meanwhile nothing was tracked there -/
theorem ce_back2 {Q Q0 : VK} {u : Value} {s' : Shared} (I : Inv X pins σ H s) (hL : ExtL H L) (hq : ∀ v H', (∀ b ∈ L, H' b = none) → Q0 v H' → Q v (reL H H' L)) (h : CE X.stack X.prog X.w (hidL H L) s Q0 u s') : CE X.stack X.prog X.w H s Q u s' := by
  refine ce_back I hL ?_
  obtain ⟨v, H', os, bare, un, hok, r, q⟩ := h
  refine ⟨v, H', os, bare, un, hok, r, hq v H' (fun b m => ?_) q⟩
  obtain ⟨φ, e⟩ := hL b m
  obtain ⟨_, ⟨o, ho⟩, _⟩ := (show ObjOk X.prog X.w H s.heap b (.ext φ) from I.hok b _ e)
  exact un.free b o ho (hidL_in m) (by simp)
theorem run_fnH2 {k : Nat} {f : Addr} {fd : FuncData} {ps : List Str} {ds : List Value} {dvs : List V} {sp : Heap → Sp} {Q : VK} {us : List Value} {vs : List V} (F : ∀ B, (∀ b o, X.base.get? b = some o → B.get? b = some o) → FnOk X.prog X.w X.K X.mg B (L2.CX X.prog X.w) k f fd ps (sp B)) (hr : Room k X.A)
    (hb : Binds X.K fd ps ds) (hd : Vals dvs ds) (hfn : ∀ y, X.fn y = true) (I : Inv X pins σ H s) (r : Vals vs us)
    (h : ∃ L, ExtL H L ∧ ∀ B, Known X σ H L B → sp B (vs ++ dvs) (hidL H L) (fun v H' => (∀ b ∈ L, H' b = none) → Q v (reL H H' L)) (fun _ _ _ => False)) : wpAny (model X.prog X.w) X.A (call (.ref f) us) (EP X pins σ Q) X.xe s := by
  obtain ⟨L, hL, h⟩ := h
  obtain ⟨B, kb, e0⟩ := known_base I hL hfn
  have q := h B kb
  have G := F B kb.old
  have r2 : Vals (vs ++ dvs) (us ++ ds) := r.append hd
  have hl : (us ++ ds).length = ps.length := by
    rw [← r2.length]
    exact G.len _ _ _ _ q
  refine wpAny_call (codeAny_mono (G.run X.A X.stack s (hidL H L) ⟨us, []⟩ (us ++ ds) (vs ++ dvs) _ _ hr e0 (hb s us I.kIn hl) r2 q) fun res s' back => ?_)
  cases res with
  | error e => exact (cx_false back).elim
  | ok fl =>
    cases fl with
    | ret u => exact I.after (ce_back2 I hL (fun _ _ n q => q n) back)
    | next => exact False.elim back
    | brk => exact False.elim back
    | cont => exact False.elim back
/-- o.m(e, ..) over a larger base -/
def tMethJ (X : Cx) (C : Addr) (m : Str) (sp : Heap → Sp) (dvs : List V) (to : TE) (t : TA) : TE := fun σ H Q => to σ H fun y H1 => ∃ a dx fs, y = .ref a ∧ H1 a = some (.ins C dx fs) ∧ fs.lookup m = none ∧
  t σ H1 fun vs H2 => ∃ L, ExtL H2 L ∧ ∀ B, Known X σ H2 L B → sp B (.ref a :: (vs ++ dvs)) (hidL H2 L) (fun v H' => (∀ b ∈ L, H' b = none) → Q v (reL H2 H' L)) (fun _ _ _ => False)
theorem pe_methJ {k : Nat} {f C : Addr} {fd : FuncData} {ps : List Str} {ds : List Value} {dvs : List V} {sp : Heap → Sp} {m : Str} {pos apos : Pos} {e o : Expr} {es : List Expr} {ta : TA} {to : TE} {pl : Sem Bool} (he : PE X o to) (c : Cls X.K C) (hm : Meth X.K C m f) (F : ∀ B, (∀ b o, X.base.get? b = some o → B.get? b = some o) → FnOk X.prog X.w X.K X.mg B (L2.CX X.prog X.w) k f fd ps (sp B)) (hr : Room k X.A) (hb : Binds X.K fd ps ds) (hd : Vals dvs ds) (hfn : ∀ y, X.fn y = true) (ha : PA X (e :: es) ta)
    (hst : starEach (e :: es) X.env = (false, eval e X.env) :: starEach es X.env := by rfl) (hpl : (backTo pos (starEach es X.env)).any (·.1) = false := by rfl)
    (ht : eval (.Call (.Attribute o m apos) (e :: es) [] pos) X.env = (do
      let ov ← eval o X.env
      standAt apos.atName
      let (f, first) ← holding [ov] (getMethod ov m pl)
      callWith pos f first (backTo pos (starEach (e :: es) X.env)) (backToKw pos (keywordEach [] X.env))) := by rfl) :
    PE X (.Call (.Attribute o m apos) (e :: es) [] pos) (tMethJ X C m sp dvs to ta) := by
  refine ⟨fun pins s σ H Q I h => ?_⟩
  refine PySem.W.methodCall_KW (pl := pl) (thn (he.run pins s σ H _ I h) fun u s1 ⟨y, H1, I1, rx, a, dx, fs, ex, ea, l, q⟩ => ?_) ht
  subst ex
  obtain rfl : u = Value.ref a := rx
  refine getmeth_ok I1 ea c hm l ?_
  refine PySem.W.callWith_K (first := [.ref a]) (h₀ := X.base) I.ok.mod.kin hm.kp (thn (ha.run pos pins s1 σ H1 _ I1 q) fun us s2 ⟨vs, H2, I2, r, q2⟩ => ⟨I2.kIn, ?_⟩) hst hpl
  exact run_fnH2 (us := .ref a :: us) (vs := .ref a :: vs) F hr hb hd hfn I2 (.cons rfl r) q2
end
section
variable {X : Cx} {pins : List (Addr × Obj)} {σ : St} {H : Hp} {s : Shared} {k : Nat} {f C : Addr} {fd : FuncData} {ps : List Str} {ds : List Value} {dvs : List V} {sp : Heap → Sp} {x : Str} {p pos : Pos} {e : Expr} {es : List Expr} {t : TA}
/-- an object is made by an __init__ that keeps its promise over every base -/
theorem run_makeH {Q : VK} {us : List Value} {vs : List V} (M : Mk X.K C f) (F : ∀ B, (∀ b o, X.base.get? b = some o → B.get? b = some o) → FnOk X.prog X.w X.K X.mg B CX0 k f fd ps (sp B)) (hr : Room (k + 1) X.A) (hb : Binds X.K fd ps ds) (hd : Vals dvs ds)
    (hfn : ∀ y, X.fn y = true) (I : Inv X pins σ H s) (r : Vals vs us)
    (h : ∀ x dx, H x = none → H dx = none → dx ≠ x → ∃ L, ExtL (upd (upd H dx (.own x)) x (.ins C dx [])) L ∧ ∀ B, Known X σ (upd (upd H dx (.own x)) x (.ins C dx [])) L B →
      sp B (.ref x :: (vs ++ dvs)) (hidL (upd (upd H dx (.own x)) x (.ins C dx [])) L) (fun v H' => v = .non ∧ ((∀ b ∈ L, H' b = none) → Q (.ref x) (reL (upd (upd H dx (.own x)) x (.ins C dx [])) H' L))) (fun _ _ _ => False)) :
    wpAny (model X.prog X.w) X.A (call (.ref C) us) (EP X pins σ Q) X.xe s := by
  obtain ⟨L, hL, hq⟩ := h (s.heap.objs.size + 1) s.heap.objs.size (I.hok.fresh (Nat.le_succ _)) (I.hok.fresh (Nat.le_refl _)) (Nat.ne_of_lt (Nat.lt_succ_self _))
  have I2 := Inv.made (C := C) I
  obtain ⟨B, kb, e0⟩ := known_base I2 hL hfn
  have q := hq B kb
  have G := F B kb.old
  have r2 : Vals (V.ref (s.heap.objs.size + 1) :: (vs ++ dvs)) (Value.ref (s.heap.objs.size + 1) :: (us ++ ds)) := .cons rfl (r.append hd)
  have hl : (Value.ref (s.heap.objs.size + 1) :: us ++ ds).length = ps.length := by
    have e := r2.length
    rw [G.len _ _ _ _ q] at e
    exact e.symm
  refine wpAny_call (make_map (f := f) I.kIn M.makes M.init (beq_iff_eq.mp M.fn) (codeAny_mono (G.run _ X.stack _ _ ⟨Value.ref (s.heap.objs.size + 1) :: us, []⟩ (Value.ref (s.heap.objs.size + 1) :: (us ++ ds)) _ _ (fun _ _ _ => False) (hr.make C us [])
    (e0.make C us []) (hb _ (Value.ref (s.heap.objs.size + 1) :: us) I2.kIn hl) r2 q) fun r s' hq' => ?_))
  cases r with
  | error e => exact False.elim hq'
  | ok fl =>
    cases fl with
    | ret u =>
      obtain ⟨v, H', I3, rv, ev, q3⟩ := I2.after (ce_back2 (Q := fun v H' => v = .non ∧ Q (.ref (s.heap.objs.size + 1)) H') I2 hL (fun _ _ n q => ⟨q.1, q.2 n⟩) hq')
      subst ev
      exact ⟨rv, ⟨V.ref (s.heap.objs.size + 1), H', I3, rfl, q3⟩⟩
    | next => exact False.elim hq'
    | brk => exact False.elim hq'
    | cont => exact False.elim hq'
def tMakeH (X : Cx) (C : Addr) (sp : Heap → Sp) (dvs : List V) (t : TA) : TE := fun σ H Q => t σ H fun vs H => ∀ x dx, H x = none → H dx = none → dx ≠ x → ∃ L, ExtL (upd (upd H dx (.own x)) x (.ins C dx [])) L ∧ ∀ B, Known X σ (upd (upd H dx (.own x)) x (.ins C dx [])) L B →
      sp B (.ref x :: (vs ++ dvs)) (hidL (upd (upd H dx (.own x)) x (.ins C dx [])) L) (fun v H' => v = .non ∧ ((∀ b ∈ L, H' b = none) → Q (.ref x) (reL (upd (upd H dx (.own x)) x (.ins C dx [])) H' L))) (fun _ _ _ => False)
theorem pe_makeH (M : Mk X.K C f) (F : ∀ B, (∀ b o, X.base.get? b = some o → B.get? b = some o) → FnOk X.prog X.w X.K X.mg B CX0 k f fd ps (sp B)) (hr : Room (k + 1) X.A) (hg : Gl X x) (hm : X.mg x = some (.ref C)) (hb : Binds X.K fd ps ds) (hd : Vals dvs ds) (hfn : ∀ y, X.fn y = true)
    (ha : PA X (e :: es) t) (hdb : (x == ("__debug__" : Str)) = false := by decide) (he : starEach (e :: es) X.env = (false, eval e X.env) :: starEach es X.env := by rfl) (hpl : (backTo pos (starEach es X.env)).any (·.1) = false := by rfl) :
    PE X (.Call (.Name x p) (e :: es) [] pos) (tMakeH X C sp dvs t) := by
  refine ⟨fun pins s σ H Q I h => ?_⟩
  refine wpAny_Call_Name_kw (ld_glob I hg hm ?_ hdb)
  refine PySem.W.callWith_K (h₀ := X.base) I.ok.mod.kin M.kp (thn (ha.run pos pins s σ H _ I h) fun us s1 ⟨vs, H1, I1, r, q⟩ => ⟨I1.kIn, ?_⟩) he hpl
  exact run_makeH M F hr hb hd hfn I1 r q
end
end L2
namespace TW
open PySem PySem.Spec PyProof.Rows L2
/-- all that is no ext stands as it stood -/
def NX (H H' : Hp) : Prop := ∀ b o, H b = some o → (∀ φ, o ≠ .ext φ) → H' b = some o
section
variable {K : PySem.W.Frag} {CR CT CP CS : Addr} {H H' : Hp} {r sh : Addr} {R : RS}
theorem NX.sq (e : NX H H') : TK K H H' := fun a xs q => by
  rcases q with (q | ⟨o, q⟩) | q
  · exact .inl (.inl (e _ _ q fun _ z => (nomatch z)))
  · exact .inl (.inr ⟨o, e _ _ q fun _ z => (nomatch z)⟩)
  · exact .inr q
theorem NX.shop {S : SS} (e : NX H H') (A : ShopAt K CS H sh S) : ShopAt K CS H' sh S :=
  ⟨e _ _ A.ob fun _ z => (nomatch z), e.sq _ _ A.w, e _ _ A.c fun _ z => (nomatch z), A.cn, e.sq _ _ A.l, e _ _ A.b fun _ z => (nomatch z), A.bn⟩
theorem NX.run (e : NX H H') (A : RunI K CR CT CP H r R) : RunI K CR CT CP H' r R := by
  obtain ⟨⟨a1, ⟨t1, t2, t3, t4, t5⟩, a3, a4, a5⟩, ne⟩ := A
  exact ⟨⟨e _ _ a1 fun _ z => (nomatch z), ⟨e _ _ t1 fun _ z => (nomatch z), e _ _ t2 fun _ z => (nomatch z), e _ _ t3 fun _ z => (nomatch z), e _ _ t4 fun _ z => (nomatch z), e _ _ t5 fun _ z => (nomatch z)⟩, e _ _ a3 fun _ z => (nomatch z),
    fun x hx => ⟨e _ _ (a4 x hx).ob fun _ z => (nomatch z), e.sq _ _ (a4 x hx).a, e.sq _ _ (a4 x hx).w⟩, e _ _ a5 fun _ z => (nomatch z)⟩, ne⟩
theorem NX.hid {L : List Addr} (h : ExtL H L) : NX H (hidL H L) := fun b o e n => (hidL_out (h.out e n)).trans e
/-- what came of a call is there behind it, and what L tracked -/
theorem same_re {L : List Addr} (h : ∀ b ∈ L, H' b = none) : Same H' (reL H H' L) := fun b o e => (reL_out (fun m => by rw [h b m] at e; cases e)).trans e
end
theorem re_keep {H H' : Hp} {L : List Addr} {Bad : Addr → Prop} (k : ∀ b o, ¬ Bad b → hidL H L b = some o → H' b = some o) : ∀ b o, ¬ Bad b → H b = some o → reL H H' L b = some o := fun b o nb e => by
  by_cases m : b ∈ L
  · exact (reL_in m).trans e
  · exact (reL_out m).trans (k b o nb ((hidL_out m).trans e))
end TW
namespace L2
open PySem PySem.Spec PyProof.Rows
/-- None in a tuple of data -/
theorem op_inNone {X : Cx} (hu : X.A.units + 1 < cLine) : OpR X (compareOp .In) (fun x y H Q => ∃ ds, x = .non ∧ Dp X.K H y (.tuple ds) ∧ PyData.canLayAll0 ds = true ∧ Q (.bl (ds.any fun z => PyData.eqv z .none)) H) := by
  intro pins s σ H x y v u Q I rx ry h
  obtain ⟨ds, ex, he, se, q⟩ := h
  obtain ⟨as, r1⟩ := Dp.reads I .none x v (by rw [ex]; exact .non) rx
  obtain ⟨bs, r2⟩ := Dp.reads I (.tuple ds) y u he ry
  refine SeqAt.in_tuple_reads r2 r1 se rfl ?_ ⟨.bl _, H, I, rfl, q⟩
  show X.A.units + 1 + min (PyData.depthAll ds) 0 < cLine
  rw [Nat.min_zero]
  exact hu
end L2
namespace TW
open PySem PySem.Spec PyProof.Rows L2
abbrev s_stands : Stmt := inClass (top 53) 13
def spStands (K : PySem.W.Frag) (CR CT CP : Addr) (Rel : Hp → V → V → Bool → Prop) : Sp := fun vs H Q _ => ∃ (r : Addr) (R : RS) (f : Nat → Bool) (ds : List PyData), vs = [.ref r] ∧ RunAt K CR CT CP H r R ∧ R.places.length ≤ 1000 ∧ (∀ (i : Nat) y, R.places[i]? = some y → CanGo K Rel H R.T y.pend (f i)) ∧ DpAll K H (R.places.map PS.fin) ds ∧ PyData.canLayAll0 ds = true ∧ (∀ H', Same H H' → DpAll K H' (R.places.map PS.fin) ds) ∧
  ∀ H', Same H H' → Q (.bl ((upTo f R.places.length).isEmpty && ds.any fun z => PyData.eqv z .none)) H'
section
variable {P : Program} {w : World} {K : PySem.W.Frag} {mg : Str → Option Value} {base : Heap} {CR CT CP CW : Addr} {n : Nat}
theorem sc_stands : FnScope ["self"] ["self"] (defScope s_stands) := ⟨rfl, rfl, rfl, by decide +kernel, rfl, by decide +kernel, by decide +kernel⟩
theorem ok_stands {f fO fE : Addr} {fd fdO fdE : FuncData} {Rel : Hp → V → V → Bool → Prop} (F : Fun K "stands" "Run.stands" s_stands f fd) (X : RTxt K CR) (GO : FnOk P w K mg base CX0 (n + 5) fO fdO ["self"] (spOver K CR CT CP Rel)) (hO : Meth K CR "is_over" fO) (bO : Binds K fdO ["self"] [])
    (GE : FnOk P w K mg base CX0 1 fE fdE ["self"] (spEnds K CR CT CP)) (hE : Meth K CR "ends" fE) (bE : Binds K fdE ["self"] []) : FnOk P w K mg base CX0 (n + 6) f fd ["self"] (spStands K CR CT CP Rel) := by
  refine F.ok sc_stands (fun vs H Q E h => ?_) (fun cdv A outer s H vs Q E hr h => ?_)
  · obtain ⟨r, R, g, ds, rfl, _⟩ := h
    rfl
  · obtain ⟨r, R, g, ds, rfl, hR, few, hC, _, lay, da, k⟩ := h
    have hr1 : Room 1 _ := hr.mono (by omega)
    refine ⟨_, pss_one (ps_ret (pe_and (pe_meth0 (pv 0) X.cl hO GO hr bO .nil pass0) (pe_one (pe_cmpR (op_inNone (hu_of hr)) pe_non (pe_meth0 (pv 0) X.cl hE GE hr1 bE .nil pass0) (by rfl))))), ?_⟩
    refine ⟨_, rfl, r, R.dx, _, rfl, hR.ob, rF_no (by decide +kernel) (by decide +kernel) (by decide +kernel) (by decide +kernel), r, R, g, rfl, hR, few, hC, fun H1 s1 => ⟨_, rfl, ?_⟩⟩
    have R1 := hR.same s1
    cases e : (upTo g R.places.length).isEmpty with
    | false =>
      rw [e] at k
      exact iteF (k _ s1)
    | true =>
      rw [e] at k
      refine iteT ?_
      refine ⟨_, rfl, r, R.dx, _, rfl, R1.ob, rF_no (by decide +kernel) (by decide +kernel) (by decide +kernel) (by decide +kernel), r, R, rfl, R1, few, fun te H2 hte s2 e2 => ?_⟩
      exact ⟨ds, rfl, .tup (SqT.of e2) (da _ (s1.trans s2)), lay, k _ (s1.trans s2)⟩
end
end TW
namespace TW
open PySem PySem.Spec PyProof.Rows L2 LamX
section
variable {K : PySem.W.Frag} {H0 H : Hp} {CS : Addr}
theorem Tw.mono {n : Nat} {x y : V} (h : Tw K H n x y) : Tw K H (n + 1) x y := by
  induction h with
  | non n => exact .non _
  | bl n b => exact .bl _ b
  | int n i => exact .int _ i
  | str n x => exact .str _ x
  | lst ha hb hl few _ ih => exact .lst ha hb hl few fun i x y h1 h2 => ih i x y h1 h2
  | tup ha hb hl few _ ih => exact .tup ha hb hl few fun i x y h1 h2 => ih i x y h1 h2
theorem Tw.le {n m : Nat} {x y : V} (h : Tw K H n x y) (l : n ≤ m) : Tw K H m x y := by
  induction l with
  | refl => exact h
  | step _ ih => exact ih.mono
theorem PV.tw (t : TK K H0 H) {v : V} (h : PV K H0 v) : Tw K H 3 v v := by
  obtain ⟨d, q⟩ := h
  have q := q.tk t
  exact q.tw q
theorem noted_pv {rows : List Row} {ans : List V} (ha : ∀ a ∈ ans, PV K H0 a) : ∀ (j : Nat) (k : Int), PV K H0 (noted (notesAt rows ans j) k)
  | 0, k => ⟨_, .int _ _⟩
  | j + 1, k => by
    show PV K H0 (noted (match rows[j]?, ans[j]? with
      | some r, some a => putK (notesAt rows ans j) (Sum.inl r.note) a
      | _, _ => notesAt rows ans j) k)
    split
    · rename_i r a e1 e2
      unfold noted
      rw [valV_put]
      split
      · exact ha a (List.mem_of_getElem? e2)
      · exact noted_pv ha j k
    · exact noted_pv ha j k
theorem part_pv {ns : List (Key × V)} {p : Part} (hn : ∀ k, PV K H0 (noted ns k)) (hv : ∀ v, p = .value v → PV K H0 v) : PV K H0 (partV ns p) := by
  cases p with
  | value v => exact hv v rfl
  | note k => exact hn k
  | plus k m =>
    show PV K H0 (match noted ns k with | .int i => .int (i + m) | v => v)
    have z := hn k
    generalize noted ns k = here at *
    cases here with
    | int i => exact ⟨_, .int _ _⟩
    | _ => exact z
/-- the sizes of the two belts -/
def SzOk (sizes : List (Key × V)) : Prop := ∃ vb vc, sizes = [(Sum.inr ("b" : Str), vb), (Sum.inr ("c" : Str), vc)] ∧ SizeV vb ∧ SizeV vc
theorem sz_val {sizes : List (Key × V)} {nm : Str} (h : SzOk sizes) (hn : nm ∈ (["b", "c"] : List Str)) : ∃ z, valV sizes (Sum.inr nm) = some z ∧ (z = .non ∨ ∃ i, z = .int i) := by
  obtain ⟨vb, vc, rfl, h1, h2⟩ := h
  rcases List.mem_cons.mp hn with rfl | hn
  · exact ⟨vb, by rw [valV_pos rfl], h1.imp id fun ⟨i, e, _⟩ => ⟨i, e⟩⟩
  · rw [List.mem_singleton.mp hn]
    exact ⟨vc, by rw [valV_neg (show (Sum.inr ("b" : Str) : Key) ≠ Sum.inr ("c" : Str) from by decide +kernel), valV_pos rfl], h2.imp id fun ⟨i, e, _⟩ => ⟨i, e⟩⟩
theorem sz_all {sizes : List (Key × V)} (h : SzOk sizes) : ∀ kv ∈ sizes, SizeV kv.2 := fun kv m => by
  obtain ⟨vb, vc, rfl, h1, h2⟩ := h
  rcases List.mem_cons.mp m with rfl | m
  · exact h1
  · rw [List.mem_singleton.mp m]
    exact h2
theorem sz_keys {sizes : List (Key × V)} (h : SzOk sizes) : sizes.map (·.1) = (["b", "c"] : List Str).map Sum.inr := by
  obtain ⟨vb, vc, rfl, _, _⟩ := h
  rfl
/-- rows of a plan -/
structure RowsG (K : PySem.W.Frag) (H0 : Hp) (rows : List Row) : Prop where
  good : ∀ r ∈ rows, GoodRow K H0 r
  few : rows.length ≤ 5
theorem GoodRow.nr {r : Row} (h : GoodRow K H0 r) : r.kind ≠ "rest" := (h.kind []).ne.2.2.2.2
theorem args_pv {rows : List Row} {ans : List V} {r : Row} (g : GoodRow K H0 r) (ha : ∀ a ∈ ans, PV K H0 a) : ∀ x ∈ r.parts.map (partV (notesAt rows ans ans.length)), PV K H0 x := fun x hx => by
  obtain ⟨p, hp, rfl⟩ := List.mem_map.mp hx
  exact part_pv (noted_pv ha _) fun v e => g.vals v (e ▸ hp)
theorem do_ex {S : Sto} {rows : List Row} {ans : List V} {r : Row} (g : GoodRow K H0 r) (nk : r.name ∈ S.bk) (ha : ∀ a ∈ ans, PV K H0 a) (hv : ∀ nm ∈ S.bk, ∀ v ∈ S.bc nm, PV K H0 v) (go : letsM S r.kind r.name = true) :
    ∃ a S', DoM S r.name r.kind (r.parts.map (partV (notesAt rows ans ans.length))) a S' ∧ PV K H0 a ∧ (∀ nm ∈ S.bk, ∀ v ∈ S'.bc nm, PV K H0 v) ∧ ∀ nm ∈ S.bk, (S'.bc nm).length ≤ (S.bc nm).length + 1 := by
  have ck := g.kind (notesAt rows ans ans.length)
  have av := args_pv (rows := rows) g ha
  generalize r.parts.map (partV (notesAt rows ans ans.length)) = args at *
  generalize r.name = nm0 at *
  generalize r.kind = kind at *
  rcases ck with ⟨rfl, x, rfl⟩ | ⟨rfl, rfl⟩
  · refine ⟨.non, _, .lay, ⟨_, .non _⟩, fun nm m v hx => ?_, fun nm m => ?_⟩
    · have hx : v ∈ (if nm = nm0 then S.bc nm0 ++ [x] else S.bc nm) := hx
      split at hx
      · rcases List.mem_append.mp hx with hx | hx
        · exact hv nm0 nk v hx
        · rw [List.mem_singleton.mp hx]
          exact av x (List.mem_cons_self ..)
      · exact hv nm m v hx
    · show (if nm = nm0 then S.bc nm0 ++ [x] else S.bc nm).length ≤ _
      split
      · rename_i e
        rw [e, List.length_append]
        exact Nat.le_refl _
      · omega
  · have el : letsM S "fetch" nm0 = !(S.bc nm0).isEmpty := if_neg (by decide +kernel)
    rw [el] at go
    cases hc : S.bc nm0 with
    | nil =>
      rw [hc] at go
      cases go
    | cons x l =>
      refine ⟨x, _, .fetch hc, hv nm0 nk x (by rw [hc]; exact List.mem_cons_self ..), fun nm m v hx => ?_, fun nm m => ?_⟩
      · have hx : v ∈ (if nm = nm0 then l else S.bc nm) := hx
        split at hx
        · exact hv nm0 nk v (by rw [hc]; exact List.mem_cons_of_mem _ hx)
        · exact hv nm m v hx
      · show (if nm = nm0 then l else S.bc nm).length ≤ _
        split
        · rename_i e
          rw [e, hc, List.length_cons]
          omega
        · omega
end
/-- the numbers below n that are told True -/
def upN (f : Nat → Bool) : Nat → List Nat
  | 0 => []
  | i + 1 => if f i = true then upN f i ++ [i] else upN f i
theorem upTo_upN (f : Nat → Bool) : ∀ n, upTo f n = (upN f n).map fun k => V.int (k : Nat)
  | 0 => rfl
  | n + 1 => by
    unfold upTo upN
    split
    · rw [List.map_append, upTo_upN f n]
      rfl
    · exact upTo_upN f n
theorem upN_mem (f : Nat → Bool) : ∀ n k, k ∈ upN f n → k < n ∧ f k = true
  | 0, k, h => nomatch h
  | n + 1, k, h => by
    unfold upN at h
    split at h
    · rename_i c
      rcases List.mem_append.mp h with h | h
      · exact ⟨Nat.lt_succ_of_lt (upN_mem f n k h).1, (upN_mem f n k h).2⟩
      · rw [List.mem_singleton.mp h]
        exact ⟨Nat.lt_succ_self _, c⟩
    · exact ⟨Nat.lt_succ_of_lt (upN_mem f n k h).1, (upN_mem f n k h).2⟩
theorem upN_len (f : Nat → Bool) : ∀ n, (upN f n).length ≤ n
  | 0 => Nat.le_refl _
  | n + 1 => by
    unfold upN
    split
    · rw [List.length_append]
      exact Nat.succ_le_succ (upN_len f n)
    · exact Nat.le_succ_of_le (upN_len f n)
theorem upN_none (f : Nat → Bool) : ∀ n, upN f n = [] → ∀ k, k < n → f k = false
  | 0, _, k, h => absurd h (Nat.not_lt_zero _)
  | n + 1, e, k, h => by
    unfold upN at e
    split at e
    · exact absurd e (by simp)
    · rename_i c
      by_cases hk : k = n
      · rw [hk]
        exact Bool.eq_false_iff.mpr c
      · exact upN_none f n e k (by omega)
theorem dpall_nat {K : PySem.W.Frag} {H : Hp} : ∀ ls : List Nat, DpAll K H (ls.map fun k => V.int (k : Nat)) (ls.map fun k => PyData.int (k : Nat))
  | [] => .nil
  | a :: l => .cons (.int _) (dpall_nat l)
theorem shaped_nat : ∀ ls : List Nat, ls.length ≤ 4 → SeqAt.shaped (.list (ls.map fun k => PyData.int (k : Nat))) = true
  | [], _ => rfl
  | [_], _ => rfl
  | [_, _], _ => rfl
  | [_, _, _], _ => rfl
  | [_, _, _, _], _ => rfl
  | _ :: _ :: _ :: _ :: _ :: _, h => by
    simp only [List.length_cons] at h
    omega
theorem sum_le {rowss : List (List Row)} {anss : List (List V)} (l : anss.length = rowss.length) (few : ∀ rows ∈ rowss, rows.length ≤ 5) (le : ∀ (i : Nat) (rows : List Row) (ans : List V), rowss[i]? = some rows → anss[i]? = some ans → ans.length ≤ rows.length) : (anss.map List.length).sum ≤ 5 * rowss.length := by
  induction rowss generalizing anss with
  | nil =>
    rw [List.eq_nil_of_length_eq_zero l]
    exact Nat.le_refl _
  | cons r rs ih =>
    cases anss with
    | nil => cases l
    | cons a as =>
      rw [List.map_cons, List.sum_cons, List.length_cons]
      have h1 := le 0 r a rfl rfl
      have h2 := few r (List.mem_cons_self ..)
      have h3 := ih (anss := as) (Nat.succ.inj l) (fun rows h => few rows (List.mem_cons_of_mem _ h)) fun i rows ans e1 e2 => le (i + 1) rows ans e1 e2
      omega
theorem atI_last {xs : List V} {x : V} (h : xs.getLast? = some x) : atI xs (-1) = some x := by
  obtain ⟨ys, rfl⟩ := List.getLast?_eq_some_iff.mp h
  unfold atI ixN
  rw [List.length_append]
  show Option.bind (if 0 ≤ (-1 : Int) then _ else _) _ = _
  rw [if_neg (by decide)]
  have l1 : ([x] : List V).length = 1 := rfl
  rw [if_pos (by omega), show ((-1 : Int) + ((ys.length + [x].length : Nat) : Int)).toNat = ys.length by omega]
  show (ys ++ [x])[ys.length]? = some x
  rw [List.getElem?_append_right (Nat.le_refl _), Nat.sub_self]
  rfl
/-- what a turn of the law rests on, and which its steps leave -/
structure TurnF (K : PySem.W.Frag) (CS : Addr) (T : List (Addr × Str)) (Hs H0 : Hp) (B : Addr → Prop) (p pl sh : Addr) (S0 : SS) (rowss : List (List Row)) (sizes : List (Key × V)) (gF cF eF rF : Nat → Addr) (H : Hp) : Prop where
  fresh : ∀ b o, B b → Hs b = some o → ∃ ps, o = .tbl ps
  ext : ExtN Hs H
  tabs : Tabs T H
  pp : ∃ x y z : Int, H p = some (.lst [.int x, .int y, .int z])
  bp : B p
  plan : PlanAt K B H pl rowss sizes
  nsh : ¬ B sh
  shop : ShopAt K CS H sh S0
  tk : TK K H0 H
  nr : ∀ (i : Nat) (rows : List Row), rowss[i]? = some rows → ¬ B (rF i)
  rows : ∀ (i : Nat) (rows : List Row), rowss[i]? = some rows → RowsAt K H (rF i) rows
  wk : ∀ (i : Nat) (rows : List Row), rowss[i]? = some rows → S0.works[i]? = some (.ref (gF i)) ∧ WorkAt H (gF i) (cF i) (eF i) (rF i)
theorem tabs_dk {T : List (Addr × Str)} {H H' : Hp} (e : DK H H') (h : LamX.Tabs T H) : LamX.Tabs T H' := fun z hz => by
  obtain ⟨ps, h1, h2, h3⟩ := h z hz
  refine ⟨ps, e _ _ h1 (fun _ z => (nomatch z)) fun _ _ _ z => (nomatch z), h2, fun pos cv q => ?_⟩
  obtain ⟨c, e1, e2⟩ := h3 pos cv q
  exact ⟨c, e1, e _ _ e2 (fun _ z => (nomatch z)) fun _ _ _ z => (nomatch z)⟩
section
variable {K : PySem.W.Frag} {CS : Addr} {T : List (Addr × Str)} {Hs H0 H H' : Hp} {B : Addr → Prop} {p pl sh : Addr} {S0 : SS} {rowss : List (List Row)} {sizes : List (Key × V)} {gF cF eF rF : Nat → Addr}
theorem TurnF.step (Z : TurnF K CS T Hs H0 B p pl sh S0 rowss sizes gF cF eF rF H) (e : Frm B H H') (hp : ∃ x y z : Int, H' p = some (.lst [.int x, .int y, .int z])) : TurnF K CS T Hs H0 B p pl sh S0 rowss sizes gF cF eF rF H' :=
  ⟨Z.fresh, fun b o q n => e.l b o (fun z => by
    obtain ⟨ps, h⟩ := Z.fresh b o z q
    exact n ps h) (Z.ext b o q n), tabs_dk e.d Z.tabs, hp, Z.bp, Z.plan.frm e, Z.nsh, ⟨e.l _ _ Z.nsh Z.shop.ob, e.tk _ _ Z.shop.w, e.d.dict Z.shop.c, Z.shop.cn, e.tk _ _ Z.shop.l, e.d.dict Z.shop.b, Z.shop.bn⟩, Z.tk.trans e.tk, Z.nr, fun i rows h => (Z.rows i rows h).frm (Z.nr i rows h) e,
    fun i rows h => ⟨(Z.wk i rows h).1, ⟨e.d _ _ (Z.wk i rows h).2.fn (fun _ z => (nomatch z)) fun _ _ _ z => (nomatch z), e.d _ _ (Z.wk i rows h).2.code (fun _ z => (nomatch z)) fun _ _ _ z => (nomatch z), e.d _ _ (Z.wk i rows h).2.cell (fun _ z => (nomatch z)) fun _ _ _ z => (nomatch z)⟩⟩⟩
theorem TurnF.same (Z : TurnF K CS T Hs H0 B p pl sh S0 rowss sizes gF cF eF rF H) (e : Same H H') : TurnF K CS T Hs H0 B p pl sh S0 rowss sizes gF cF eF rF H' := Z.step (.of e) (by obtain ⟨x, y, z, q⟩ := Z.pp; exact ⟨x, y, z, e _ _ q⟩)
theorem TurnF.put (Z : TurnF K CS T Hs H0 B p pl sh S0 rowss sizes gF cF eF rF H) (e : PutP p H H') : TurnF K CS T Hs H0 B p pl sh S0 rowss sizes gF cF eF rF H' := Z.step (e.frm Z.pp Z.bp) e.p
end
/-- how far a turn of the law has come -/
structure StepF (K : PySem.W.Frag) (CR CT CP : Addr) (H0 : Hp) (p r pl dn sh : Addr) (rowss : List (List Row)) (sizes : List (Key × V)) (H : Hp) (R : RS) (sx : Addr) (S : Sto) (anss : List (List V)) (last : Option V) : Prop where
  run : RunK K CR CT CP rowss sh H r R S anss
  epl : R.pl = pl
  edn : R.dn = dn
  st : StateAt K (fun b => b = p ∨ b = r ∨ b = pl ∨ b = dn) H sx rowss S anss last
  ebk : S.bk = (["b", "c"] : List Str)
  esz : S.sizes = sizes
  vals : ∀ nm ∈ S.bk, ∀ v ∈ S.bc nm, PV K H0 v
  ln : ∀ nm ∈ S.bk, (S.bc nm).length ≤ (anss.map List.length).sum
  la : anss.length = rowss.length
  le : ∀ (i : Nat) (rows : List Row) (ans : List V), rowss[i]? = some rows → anss[i]? = some ans → ans.length ≤ rows.length
  va : ∀ ans ∈ anss, ∀ a ∈ ans, PV K H0 a
section
variable {K : PySem.W.Frag} {CR CT CP : Addr} {H0 H H' : Hp} {p r pl dn sh : Addr} {rowss : List (List Row)} {sizes : List (Key × V)} {R : RS} {sx : Addr} {S : Sto} {anss : List (List V)} {last : Option V}
theorem StepF.put (Z : StepF K CR CT CP H0 p r pl dn sh rowss sizes H R sx S anss last) (e : PutP p H H') (hp : ∃ x y z : Int, H p = some (.lst [.int x, .int y, .int z])) (n1 : r ≠ p) (n2 : pl ≠ p) (n3 : dn ≠ p) : StepF K CR CT CP H0 p r pl dn sh rowss sizes H' R sx S anss last :=
  ⟨Z.run.keep e.k (e.frm (B := fun b => b = p) hp rfl).d n1 (by rw [Z.epl]; exact n2) (by rw [Z.edn]; exact n3) (let ⟨x, y, z, q⟩ := hp; ⟨_, q⟩), Z.epl, Z.edn, Z.st.frm (e.frm hp (.inl rfl)), Z.ebk, Z.esz, Z.vals, Z.ln, Z.la, Z.le, Z.va⟩
theorem StepF.same (Z : StepF K CR CT CP H0 p r pl dn sh rowss sizes H R sx S anss last) (e : Same H H') : StepF K CR CT CP H0 p r pl dn sh rowss sizes H' R sx S anss last :=
  ⟨Z.run.nx fun b o q _ => e b o q, Z.epl, Z.edn, Z.st.frm (.of e), Z.ebk, Z.esz, Z.vals, Z.ln, Z.la, Z.le, Z.va⟩
theorem StepF.so (Z : StepF K CR CT CP H0 p r pl dn sh rowss sizes H R sx S anss last) (t : TK K H0 H) (sz : SzOk sizes) (sm : (anss.map List.length).sum ≤ 900) : StoOk K H S :=
  ⟨fun nm m => by
    rw [Z.esz]
    exact sz_val sz (Z.ebk ▸ m), fun nm m v hv => (Z.vals nm m v hv).tk t, fun nm m => Nat.le_trans (Z.ln nm m) sm, by rw [Z.ebk]; decide⟩
end
theorem PlanAt.extN {K : PySem.W.Frag} {B : Addr → Prop} {H H' : Hp} {pl : Addr} {rowss : List (List Row)} {cells : List (Key × V)} (e : ExtN H H') (h : PlanAt K B H pl rowss cells) : PlanAt K B H' pl rowss cells := by
  obtain ⟨wl, bx, lk, bd, wxs, h1, ⟨h2, n2⟩, h3, h4, h5, ⟨h6, n6⟩, h7⟩ := h.ex
  exact ⟨wl, bx, lk, bd, wxs, extN_tk e _ _ h1, ⟨e _ _ h2 fun _ z => (nomatch z), n2⟩, h3, fun i x rows a b => by
    obtain ⟨rl, e1, nb, e2⟩ := h4 i x rows a b
    exact ⟨rl, e1, nb, e2.extN e⟩, e _ _ h5 fun _ z => (nomatch z), ⟨e _ _ h6 fun _ z => (nomatch z), n6⟩, e _ _ h7 fun _ z => (nomatch z)⟩
/-- what is free behind was free, or a table -/
theorem free_back {H H' : Hp} {b : Addr} (e : ExtN H H') (h : H' b = none) : ∀ o, H b = some o → ∃ ps, o = .tbl ps := fun o q => by
  by_cases c : ∃ ps, o = .tbl ps
  · exact c
  · rw [e b o q fun ps z => c ⟨ps, z⟩] at h
    cases h
theorem ShopWorks.pick {K : PySem.W.Frag} {B : Addr → Prop} {H : Hp} {rowss : List (List Row)} {gs : List Addr} (h : ShopWorks K B H rowss gs) : ∃ gF cF eF rF : Nat → Addr, ∀ (i : Nat) (rows : List Row), rowss[i]? = some rows → gs[i]? = some (gF i) ∧ WorkAt H (gF i) (cF i) (eF i) (rF i) ∧ ¬ B (rF i) ∧ RowsAt K H (rF i) rows := by
  have one : ∀ i : Nat, ∃ q : Addr × Addr × Addr × Addr, ∀ (rows : List Row), rowss[i]? = some rows → gs[i]? = some q.1 ∧ WorkAt H q.1 q.2.1 q.2.2.1 q.2.2.2 ∧ ¬ B q.2.2.2 ∧ RowsAt K H q.2.2.2 rows := fun i => by
    cases e : rowss[i]? with
    | none => exact ⟨(0, 0, 0, 0), fun rows z => (nomatch z)⟩
    | some rows =>
      have hi := (List.getElem?_eq_some_iff.mp e).1
      obtain ⟨g, hg⟩ : ∃ g, gs[i]? = some g := ⟨_, List.getElem?_eq_getElem (by rw [h.1]; exact hi)⟩
      obtain ⟨c, cell, rl, q1, q2, q3⟩ := h.2 i g rows hg e
      exact ⟨(g, c, cell, rl), fun rows' z => by cases z; exact ⟨hg, q1, q2, q3⟩⟩
  exact ⟨fun i => (one i).choose.1, fun i => (one i).choose.2.1, fun i => (one i).choose.2.2.1, fun i => (one i).choose.2.2.2, fun i rows e => (one i).choose_spec rows e⟩
theorem PlanAt.weak {K : PySem.W.Frag} {B B' : Addr → Prop} {H : Hp} {pl : Addr} {rowss : List (List Row)} {cells : List (Key × V)} (w : ∀ b, B' b → B b) (h : PlanAt K B H pl rowss cells) : PlanAt K B' H pl rowss cells := by
  obtain ⟨wl, bx, lk, bd, wxs, h1, ⟨h2, n2⟩, h3, h4, h5, ⟨h6, n6⟩, h7⟩ := h.ex
  exact ⟨wl, bx, lk, bd, wxs, h1, ⟨h2, fun q => n2 (w _ q)⟩, h3, fun i x rows a b => by
    obtain ⟨rl, e1, nb, e2⟩ := h4 i x rows a b
    exact ⟨rl, e1, fun q => nb (w _ q), e2⟩, h5, ⟨h6, fun q => n6 (w _ q)⟩, h7⟩
theorem NX.rows {K : PySem.W.Frag} {H H' : Hp} {rl : Addr} {rows : List Row} (e : NX H H') (h : RowsAt K H rl rows) : RowsAt K H' rl rows := by
  obtain ⟨xs, h1, h2, h3⟩ := h.ex
  exact ⟨xs, e _ _ h1 fun _ z => (nomatch z), h2, fun i x r a b => (h3 i x r a b).tk e.sq⟩
/-- what the works of a shop have tracked -/
def trL (gF cF eF : Nat → Addr) (m : Nat) : List Addr := (List.range m).flatMap fun i => [gF i, cF i, eF i]
theorem trL_mem {gF cF eF : Nat → Addr} {i m : Nat} (h : i < m) : gF i ∈ trL gF cF eF m ∧ cF i ∈ trL gF cF eF m ∧ eF i ∈ trL gF cF eF m := by
  have q : ∀ x, x ∈ [gF i, cF i, eF i] → x ∈ trL gF cF eF m := fun x hx => List.mem_flatMap.mpr ⟨i, List.mem_range.mpr h, hx⟩
  exact ⟨q _ (List.mem_cons_self ..), q _ (List.mem_cons_of_mem _ (List.mem_cons_self ..)), q _ (List.mem_cons_of_mem _ (List.mem_cons_of_mem _ (List.mem_cons_self ..)))⟩
theorem extL_tr {H : Hp} {gF cF eF rF : Nat → Addr} {m : Nat} (h : ∀ i, i < m → WorkAt H (gF i) (cF i) (eF i) (rF i)) : ExtL H (trL gF cF eF m) := fun b hb => by
  obtain ⟨i, hi, hx⟩ := List.mem_flatMap.mp hb
  have W := h i (List.mem_range.mp hi)
  rcases List.mem_cons.mp hx with rfl | hx
  · exact ⟨_, W.fn⟩
  rcases List.mem_cons.mp hx with rfl | hx
  · exact ⟨_, W.code⟩
  rw [List.mem_singleton.mp hx]
  exact ⟨_, W.cell⟩
end TW
namespace TW
open PySem PySem.Spec PyProof.Rows L2 LamX
theorem pairs_bc {ys : List Str} (p : ys.Perm (["b", "c"] : List Str)) (s : sortedS ys = true) : ys = (["b", "c"] : List Str) := by
  obtain ⟨a, b, rfl⟩ : ∃ a b, ys = [a, b] := by
    have l : ys.length = 2 := p.length_eq
    match ys, l with
    | [a, b], _ => exact ⟨a, b, rfl⟩
  have nd : ([a, b] : List Str).Nodup := p.nodup_iff.mpr (by decide +kernel)
  have ma : a ∈ (["b", "c"] : List Str) := p.mem_iff.mp (List.mem_cons_self ..)
  have mb : b ∈ (["b", "c"] : List Str) := p.mem_iff.mp (List.mem_cons_of_mem _ (List.mem_cons_self ..))
  have ne : a ≠ b := fun e => (List.nodup_cons.mp nd).1 (e ▸ List.mem_cons_self ..)
  rcases List.mem_cons.mp ma with rfl | ma
  · rcases List.mem_cons.mp mb with rfl | mb
    · exact absurd rfl ne
    · rw [List.mem_singleton.mp mb]
  · rcases List.mem_cons.mp mb with rfl | mb
    · rw [List.mem_singleton.mp ma] at s
      exact absurd s (by decide +kernel)
    · exact absurd ((List.mem_singleton.mp ma).trans (List.mem_singleton.mp mb).symm) ne
theorem pairsIn_nil {kvs : List (Key × V)} {H : Hp} {xs : List V} (h : PairsIn kvs [] H xs) : xs = [] := by
  obtain ⟨ys, p, _, l, _⟩ := h
  have := p.length_eq
  exact List.eq_nil_of_length_eq_zero (l.trans this)
section
variable {K : PySem.W.Frag} {CR CT CP : Addr} {H : Hp} {r sh : Addr} {rowss : List (List Row)} {R : RS} {S : Sto} {anss : List (List V)}
theorem tw_nil {n : Nat} {a b : Addr} (ha : SqT K H a []) (hb : SqT K H b []) : Tw K H (n + 1) (.ref a) (.ref b) := .tup ha hb rfl (Nat.zero_le _) fun i x y h => (nomatch h)
/-- a belt, told twice -/
theorem belt_tw {a b : Addr} {xs : List V} (hv : ∀ v ∈ xs, PV K H v) (few : xs.length ≤ 1000) (ha : SqT K H a xs) (hb : SqT K H b xs) : Tw K H 4 (.ref a) (.ref b) := by
  refine .tup ha hb rfl few fun j x y e1 e2 => ?_
  obtain rfl := Option.some.inj (e1.symm.trans e2)
  exact (hv x (List.mem_of_getElem? e1)).tw (TK.of (Same.refl _))
/-- the pairs of the belts, told twice -/
theorem pairs_tw {a b : Addr} {xs ys : List V} (eb : S.bk = (["b", "c"] : List Str)) (so : StoOk K H S) (ha : SqT K H a xs) (pa : BeltsIn K H S.bk S.bc xs) (hb : SqT K H b ys) (pb : BeltsIn K H S.bk S.bc ys) : Tw K H 6 (.ref a) (.ref b) := by
  obtain ⟨n1, p1, s1, l1, t1⟩ := pa
  obtain ⟨n2, p2, s2, l2, t2⟩ := pb
  rw [eb] at p1 p2
  obtain rfl := pairs_bc p1 s1
  obtain rfl := pairs_bc p2 s2
  have l1 : xs.length = 2 := l1
  have l2 : ys.length = 2 := l2
  refine .tup ha hb (by omega) (by omega) fun i x y e1 e2 => ?_
  have hi : i < 2 := by have := (List.getElem?_eq_some_iff.mp e1).1; omega
  obtain ⟨nm, hn⟩ : ∃ nm, (["b", "c"] : List Str)[i]? = some nm := ⟨_, List.getElem?_eq_getElem hi⟩
  have m : nm ∈ S.bk := by
    rw [eb]
    exact List.mem_of_getElem? hn
  obtain ⟨c, v, rfl, hc, hv⟩ := t1 i x nm e1 hn
  obtain ⟨d, u, rfl, hd, hu⟩ := t2 i y nm e2 hn
  refine .tup hc hd rfl (by show 2 ≤ 1000; decide) fun j x y e1 e2 => ?_
  match j, e1, e2 with
  | 0, e1, e2 =>
    cases e1
    cases e2
    exact .str _ _
  | 1, e1, e2 =>
    cases e1
    cases e2
    exact belt_tw (so.vals nm m) (Nat.le_trans (so.len nm m) (by decide)) hv hu
/-- what came of a run, told twice -/
theorem out_tw (Z : RunK K CR CT CP rowss sh H r R S anss) (la : anss.length = rowss.length) (few : rowss.length ≤ 1000) (eb : S.bk = (["b", "c"] : List Str)) (so : StoOk K H S) {t e a b c ww t2 e2 a2 b2 c2 w2 : Addr} {xs xs2 es ws : List V}
    (h1 : SqT K H t [.ref e, .ref a, .ref b, .ref c, .ref ww]) (h2 : SqT K H e (R.places.map PS.fin)) (h3 : SqT K H ww (R.places.map fun x => V.ref x.tw)) (h4 : SqT K H a []) (h5 : SqT K H b []) (h6 : SqT K H c xs) (p6 : BeltsIn K H S.bk S.bc xs)
    (g1 : SqT K H t2 [.ref e2, .ref a2, .ref b2, .ref c2, .ref w2]) (g2 : SqT K H e2 es) (ge : EndsTo K H rowss anss es) (g4 : SqT K H a2 []) (g5 : SqT K H b2 []) (g6 : SqT K H c2 xs2) (q6 : BeltsIn K H S.bk S.bc xs2) (g3 : SqT K H w2 ws) (gl : ws.length = rowss.length) (gs : SaidTo K H ws) : Tw K H 7 (.ref t) (.ref t2) := by
  have lp := Z.len
  have pick : ∀ {j : Nat} {x : PS}, R.places[j]? = some x → ∃ rows ans, rowss[j]? = some rows ∧ anss[j]? = some ans ∧ x.ans = ans ∧ BPlay K rows H x.ans x.pend x.fin x.words := fun {j x} hx => by
    have hj := (List.getElem?_eq_some_iff.mp hx).1
    obtain ⟨rows, e1⟩ : ∃ rows, rowss[j]? = some rows := ⟨_, List.getElem?_eq_getElem (by omega)⟩
    obtain ⟨ans, e2⟩ : ∃ ans, anss[j]? = some ans := ⟨_, List.getElem?_eq_getElem (by omega)⟩
    exact ⟨rows, ans, e1, e2, Z.pl j x rows ans hx e1 e2⟩
  have A0 : Tw K H 5 (.ref e) (.ref e2) := by
    refine .tup h2 g2 (by rw [List.length_map, ge.1, lp]) (by rw [List.length_map, lp]; exact few) fun j x y e1 e2 => ?_
    rw [List.getElem?_map] at e1
    obtain ⟨p, hp, rfl⟩ := Option.map_eq_some_iff.mp e1
    obtain ⟨rows, ans, q1, q2, rfl, _, bp⟩ := pick hp
    obtain ⟨g1, g2⟩ := ge.2 j y rows _ e2 q1 q2
    rcases bp with ⟨lt, ef, _⟩ | ⟨eq, _, u, ef, hu⟩
    · rw [ef, g1 lt]
      exact .non _
    · obtain ⟨v, rfl, hv⟩ := g2 eq
      rw [ef]
      refine .tup hu hv rfl (by show 2 ≤ 1000; decide) fun j x y e1 e2 => ?_
      match j, e1, e2 with
      | 0, e1, e2 =>
        cases e1
        cases e2
        exact .str _ _
      | 1, e1, e2 =>
        cases e1
        cases e2
        exact .non _
  have A4 : Tw K H 5 (.ref ww) (.ref w2) := by
    refine .tup h3 g3 (by rw [List.length_map, gl, lp]) (by rw [List.length_map, lp]; exact few) fun j x y e1 e2 => ?_
    rw [List.getElem?_map] at e1
    obtain ⟨p, hp, rfl⟩ := Option.map_eq_some_iff.mp e1
    obtain ⟨rows, ans, q1, q2, _, ew, _⟩ := pick hp
    obtain ⟨u, rfl, hu⟩ := gs j y e2
    have hw := (Z.run.at_.e p (List.mem_of_getElem? hp)).w
    rw [ew] at hw
    exact tw_nil hw hu
  refine .tup h1 g1 rfl (by show 5 ≤ 1000; decide) fun j x y e1 e2 => ?_
  match j, e1, e2 with
  | 0, e1, e2 => cases e1; cases e2; exact A0.mono
  | 1, e1, e2 => cases e1; cases e2; exact tw_nil h4 g4
  | 2, e1, e2 => cases e1; cases e2; exact tw_nil h5 g5
  | 3, e1, e2 => cases e1; cases e2; exact pairs_tw eb so h6 p6 g6 q6
  | 4, e1, e2 => cases e1; cases e2; exact A4.mono
theorem upN_tw {f : Nat → Bool} {m : Nat} {a b : Addr} {n : Nat} (few : m ≤ 1000) (ha : H a = some (.lst (upTo f m))) (hb : H b = some (.lst (upTo f m))) : Tw K H (n + 1) (.ref a) (.ref b) := by
  refine .lst (SqL.of ha) (SqL.of hb) rfl (Nat.le_trans (upTo_len f m) few) fun i x y e1 e2 => ?_
  obtain rfl := Option.some.inj (e1.symm.trans e2)
  rw [upTo_upN, List.getElem?_map] at e1
  obtain ⟨k, _, rfl⟩ := Option.map_eq_some_iff.mp e1
  exact .int _ _
end
theorem eqv_upN (l : List Nat) : PyData.eqv (.list (l.map fun k => PyData.int (k : Nat))) (.list []) = l.isEmpty := by
  cases l <;> rfl
theorem upTo_empty {f : Nat → Bool} {m : Nat} (h : upN f m = []) : (upTo f m).isEmpty = true := by
  rw [upTo_upN, h]
  rfl
/-- the ends of a run, as data: None where a work waits -/
theorem fin_data {K : PySem.W.Frag} {CR CT CP : Addr} {H : Hp} {r sh : Addr} {rowss : List (List Row)} {R : RS} {S : Sto} {anss : List (List V)} (Z : RunK K CR CT CP rowss sh H r R S anss) (la : anss.length = rowss.length) : ∃ ds : List PyData, (∀ H', TK K H H' → DpAll K H' (R.places.map PS.fin) ds) ∧ PyData.canLayAll0 ds = true ∧ ds.length = rowss.length ∧
    ∀ (i : Nat) (rows : List Row) (ans : List V) (d : PyData), rowss[i]? = some rows → anss[i]? = some ans → ds[i]? = some d → (ans.length < rows.length ∧ d = .none) ∨ (ans.length = rows.length ∧ d = .tuple [.str "told", .none]) := by
  have each : ∀ (i : Nat) (x : PS), R.places[i]? = some x → ∃ d : PyData, VD K H 1 x.fin d ∧ ∀ (rows : List Row) (ans : List V), rowss[i]? = some rows → anss[i]? = some ans → (ans.length < rows.length ∧ d = .none) ∨ (ans.length = rows.length ∧ d = .tuple [.str "told", .none]) := fun i x hx => by
    have hi := (List.getElem?_eq_some_iff.mp hx).1
    have hl := Z.len
    obtain ⟨rows, hrow⟩ : ∃ rows, rowss[i]? = some rows := ⟨_, List.getElem?_eq_getElem (by omega)⟩
    obtain ⟨ans, hans⟩ : ∃ ans, anss[i]? = some ans := ⟨_, List.getElem?_eq_getElem (by omega)⟩
    obtain ⟨ea, _, hb⟩ := Z.pl i x rows ans hx hrow hans
    rw [ea] at hb
    rcases hb with ⟨lt, ef, _⟩ | ⟨e, _, t, ef, ht⟩
    · rw [ef]
      exact ⟨.none, .non _, fun rows' ans' a b => by
        cases hrow.symm.trans a
        cases hans.symm.trans b
        exact .inl ⟨lt, rfl⟩⟩
    · rw [ef]
      refine ⟨.tuple [.str "told", .none], .tup ht rfl (by show 2 ≤ 1000; decide) fun i x d h1 h2 => ?_, fun rows' ans' a b => ?_⟩
      · match i, h1, h2 with
        | 0, h1, h2 => cases h1; cases h2; exact .str _ _ (by decide +kernel)
        | 1, h1, h2 => cases h1; cases h2; exact .non _
      · cases hrow.symm.trans a
        cases hans.symm.trans b
        exact .inr ⟨e, rfl⟩
  have pick : ∀ i : Nat, ∃ d : PyData, ∀ x, R.places[i]? = some x → VD K H 1 x.fin d ∧ ∀ (rows : List Row) (ans : List V), rowss[i]? = some rows → anss[i]? = some ans → (ans.length < rows.length ∧ d = .none) ∨ (ans.length = rows.length ∧ d = .tuple [.str "told", .none]) := fun i => by
    cases h : R.places[i]? with
    | none => exact ⟨.none, fun x z => (nomatch z)⟩
    | some x =>
      obtain ⟨d, q⟩ := each i x h
      exact ⟨d, fun y z => by cases z; exact q⟩
  have at_ : ∀ (i : Nat) (d : PyData), ((List.range R.places.length).map fun i => (pick i).choose)[i]? = some d → d = (pick i).choose := fun i d h => by
    rw [List.getElem?_map] at h
    obtain ⟨j, hj, rfl⟩ := Option.map_eq_some_iff.mp h
    rw [List.getElem?_range (by have := (List.getElem?_eq_some_iff.mp hj).1; rw [List.length_range] at this; exact this)] at hj
    cases hj
    rfl
  refine ⟨(List.range R.places.length).map fun i => (pick i).choose, fun H' tk => ?_, lay_all fun i d h => ?_, by rw [List.length_map, List.length_range]; exact Z.len, fun i rows ans d h1 h2 h3 => ?_⟩
  · refine dpAll_at (by rw [List.length_map, List.length_map, List.length_range]) fun i x d h1 h2 => ?_
    rw [List.getElem?_map] at h1
    obtain ⟨y, hy, rfl⟩ := Option.map_eq_some_iff.mp h1
    rw [at_ i d h2]
    exact (((pick i).choose_spec y hy).1.tk tk).dp
  · have hi := (List.getElem?_eq_some_iff.mp h).1
    rw [List.length_map, List.length_range] at hi
    rw [at_ i d h]
    exact ((pick i).choose_spec _ (List.getElem?_eq_getElem hi)).1.lay
  · have hi := (List.getElem?_eq_some_iff.mp h3).1
    rw [List.length_map, List.length_range] at hi
    rw [at_ i d h3]
    exact ((pick i).choose_spec _ (List.getElem?_eq_getElem hi)).2 rows ans h1 h2
/-- whether a work of a plan waits still -/
def waits (rowss : List (List Row)) (anss : List (List V)) : List Bool := List.zipWith (fun rows ans => decide (ans.length < rows.length)) rowss anss
theorem waits_any : ∀ (rowss : List (List Row)) (anss : List (List V)) (ds : List PyData), anss.length = rowss.length → ds.length = rowss.length → (∀ (i : Nat) (rows : List Row) (ans : List V) (d : PyData), rowss[i]? = some rows → anss[i]? = some ans → ds[i]? = some d → (ans.length < rows.length ∧ d = .none) ∨ (ans.length = rows.length ∧ d = .tuple [.str "told", .none])) →
    (ds.any fun z => PyData.eqv z .none) = (waits rowss anss).any id
  | [], [], [], _, _, _ => rfl
  | r :: rs, a :: as, d :: ds, l1, l2, h => by
    have ih := waits_any rs as ds (Nat.succ.inj l1) (Nat.succ.inj l2) fun i rows ans d h1 h2 h3 => h (i + 1) rows ans d h1 h2 h3
    show (PyData.eqv d .none || ds.any fun z => PyData.eqv z .none) = (decide (a.length < r.length) || (waits rs as).any id)
    rw [ih]
    rcases h 0 r a d rfl rfl rfl with ⟨e1, e2⟩ | ⟨e1, e2⟩
    · rw [e2, decide_eq_true e1]
      rfl
    · rw [e2, decide_eq_false (by omega)]
      rfl
theorem canF (rowss : List (List Row)) (anss : List (List V)) (S : Sto) : ∃ g : Nat → Bool, ∀ (i : Nat) (rows : List Row) (ans : List V), rowss[i]? = some rows → anss[i]? = some ans → g i = canM S rows ans :=
  ⟨fun i => match rowss[i]?, anss[i]? with
    | some rows, some ans => canM S rows ans
    | _, _ => false, fun i rows ans h1 h2 => by
    dsimp only
    rw [h1, h2]⟩
theorem waits_at : ∀ {rowss : List (List Row)} {anss : List (List V)} {i : Nat} {rows : List Row} {ans : List V}, rowss[i]? = some rows → anss[i]? = some ans → (waits rowss anss)[i]? = some (decide (ans.length < rows.length))
  | _ :: _, _ :: _, 0, _, _, h1, h2 => by
    cases h1
    cases h2
    rfl
  | _ :: rs, _ :: as, i + 1, _, _, h1, h2 => waits_at (rowss := rs) (anss := as) (i := i) h1 h2
theorem waits_len : ∀ {rowss : List (List Row)} {anss : List (List V)}, anss.length = rowss.length → (waits rowss anss).length = rowss.length
  | [], [], _ => rfl
  | _ :: rs, _ :: as, h => congrArg (· + 1) (waits_len (rowss := rs) (anss := as) (Nat.succ.inj h))
end TW
namespace L2
open PySem PySem.Spec PyProof.Rows
/-- a method, as it is called -/
def MethOk (P : Program) (w : World) (K : PySem.W.Frag) (mg : Str → Option Value) (base : Heap) (CX : CXT) (k : Nat) (C : Addr) (m : Str) (ps : List Str) (sp : Sp) : Prop := ∃ f fd, FnOk P w K mg base CX k f fd ps sp ∧ Meth K C m f ∧ Binds K fd ps []
/-- a def of the module, as it is called -/
def GlobOk (P : Program) (w : World) (K : PySem.W.Frag) (mg : Str → Option Value) (base : Heap) (CX : CXT) (k : Nat) (x : Str) (ps : List Str) (sp : Sp) : Prop := ∃ f fd, FnOk P w K mg base CX k f fd ps sp ∧ mg x = some (.ref f) ∧ PySem.W.keepIn K (.ref f) = true ∧ Binds K fd ps []
end L2
namespace TW
open PySem PySem.Spec PyProof.Rows L2 LamX
abbrev sLaw : Stmt := top 85
abbrev NLaw : List Str := ["_law_script", "_law_turn", "_law_draws", "_law_works", "_law_k", "_law_sizes", "_law_plan", "_law_run", "_law_state", "_law_at", "_law_stands", "_law_stand_here"]
theorem scLaw : FnScope NLaw ["_law_script"] (defScope sLaw) := ⟨rfl, rfl, rfl, by decide +kernel, rfl, by decide +kernel, by decide +kernel⟩
def spLaw (K : PySem.W.Frag) (T : List (Addr × Str)) : Sp := fun vs H Q _ => ∃ (a : Addr) (ns : List Int), vs = [.ref a] ∧ SqL K H a (ns.map V.int) ∧ ns.length ≤ 63 ∧ Tabs T H ∧ ∀ H', Q (.bl true) H'
section
variable {P : Program} {w : World} {K : PySem.W.Frag} {mg : Str → Option Value} {base : Heap} {C CS CP CH CV CR CT CW CC CN pS : Addr} {S : Addr → Option Sp} {N kw n : Nat} {T : List (Addr × Str)}
theorem ok_law {f fR fO : Addr} {fd fdR fdO : FuncData} (F : Fun K "law" "law" sLaw f fd) (B : Blt mg) (mMin : mg "min" = none) (mAny : mg "any" = none) (XR : RTxt K CR)
    (G1 : GlobOk P w K mg base CX0 N "_law_source" ["_law_script", "_law_at"] (spSource K))
    (G2 : GlobOk P w K mg base CX0 N "_law_draw" ["_law_draws", "_law_many"] spDraw)
    (G3 : GlobOk P w K mg base CX0 N "_law_pick" ["_law_draws", "_law_xs"] (spPick K))
    (G4 : GlobOk P w K mg base CX0 N "_law_same" ["_law_found", "_law_due"] (spSame K 8))
    (G5 : GlobOk P w K mg base CX0 N "_law_work" ["_law_draws"] (spWorkL K))
    (G7 : GlobOk P w K mg base CX0 N "_law_shop" ["_law_plan"] (spShopL K CS n T))
    (G8 : GlobOk P w K mg base CX0 N "_law_begun" ["_law_plan"] (spBegun K n))
    (G9 : GlobOk P w K mg base CX0 N "_law_can" ["_law_state"] (spCanL K n))
    (G10 : GlobOk P w K mg base CX0 N "_law_go" ["_law_plan", "_law_state", "_law_k"] (spGoL K n))
    (G11 : GlobOk P w K mg base CX0 N "_law_outcome" ["_law_state"] (spOutL K))
    (MR : Mk K CR fR) (mR : mg "Run" = some (.ref CR)) (bR : Binds K fdR ["self", "shop"] []) (GR : ∀ B, (∀ b o, base.get? b = some o → B.get? b = some o) → FnOk P w K mg B CX0 N fR fdR ["self", "shop"] (spRI K CR CS CT (spCome P w K mg B C CS CP CH CV kw n)))
    (hO : Meth K CR "go" fO) (bO : Binds K fdO ["self", "k"] []) (GO : ∀ B, (∀ b o, base.get? b = some o → B.get? b = some o) → FnOk P w K mg B (L2.CX P w) N fO fdO ["self", "k"] (spGo P w K CR CT CP CW CC pS S (RD K n) (spCome P w K mg B C CS CP CH CV kw n)))
    (GA : MethOk P w K mg base CX0 N CR "can" ["self"] (spCan K CR CT CP (RD K n))) (GT : MethOk P w K mg base CX0 N CR "outcome" ["self"] (spOutcome2 K CR CT CP)) (GC : MethOk P w K mg base (L2.CX P w) N CR "belt" ["self", "name"] (spCellOf K CR CT CP CN (fun T => T.rows))) (GV : MethOk P w K mg base CX0 N CR "is_over" ["self"] (spOver K CR CT CP (RD K n))) (GZ : MethOk P w K mg base CX0 N CR "stands" ["self"] (spStands K CR CT CP (RD K n)))
    (hx : PySem.W.exmOne K (.ref CH) (.ref CH) = some true) (SK : StepKs K w CT pS S) (hn : n = 3)
    (WK : ∀ (X : Cx) (σ : L2.St) (H : Hp) (L : List Addr) (B : Heap), X.prog = P → X.w = w → X.K = K → X.mg = mg → X.base = base → Known X σ H L B → ∀ (S0 : SS) (rowss : List (List Row)) (gF cF eF rF : Nat → Addr) (H0 : Hp), (∀ (i : Nat) (rows : List Row), rowss[i]? = some rows → S0.works[i]? = some (.ref (gF i)) ∧ WorkAt H (gF i) (cF i) (eF i) (rF i) ∧ gF i ∈ L ∧ cF i ∈ L ∧ eF i ∈ L ∧ RowsOk K H0 n S0.beltN rows) → WorksK P w K mg B C CS CH kw n S0 rowss rF H0) :
    FnOk P w K mg base CX0 (N + 2) f fd ["_law_script"] (spLaw K T) := by
  refine F.ok scLaw (fun vs H Q E h => ?_) (fun cdv A outer s H vs Q E hr h => ?_)
  · obtain ⟨a, ns, rfl, _⟩ := h
    rfl
  · obtain ⟨a, ns, rfl, hns, few, hT, k⟩ := h
    have hr0 : Room N _ := hr.mono (by omega)
    have hu := hu_of hr
    obtain ⟨f1, d1, E1, m1, k1, b1⟩ := G1
    obtain ⟨f2, d2, E2, m2, k2, b2⟩ := G2
    obtain ⟨f3, d3, E3, m3, k3, b3⟩ := G3
    obtain ⟨f4, d4, E4, m4, k4, b4⟩ := G4
    obtain ⟨f5, d5, E5, m5, k5, b5⟩ := G5
    obtain ⟨f7, d7, E7, m7, k7, b7⟩ := G7
    obtain ⟨f8, d8, E8, m8, k8, b8⟩ := G8
    obtain ⟨f9, d9, E9, m9, k9, b9⟩ := G9
    obtain ⟨f10, d10, E10, m10, k10, b10⟩ := G10
    obtain ⟨f11, d11, E11, m11, k11, b11⟩ := G11
    obtain ⟨g1, e1, EA, h1, c1⟩ := GA
    obtain ⟨g2, e2, ET, h2, c2⟩ := GT
    obtain ⟨g3, e3, EC, h3, c3⟩ := GC
    obtain ⟨g4, e4, EV, h4, c4⟩ := GV
    obtain ⟨g5, e5, EZ, h5, c5⟩ := GZ
    refine ⟨_, pss_cons (ps_for PassesOwn.never rfl (pi_range1 (by rfl) B.range (pa_cons (pe_op op_add pe_int (pe_callB (call_min2 rfl) (by rfl) mMin (by decide +kernel) (pa_cons (pe_callB call_len_seq (by rfl) B.len PySem.boot_len (pa_cons (pv 0) pa_nil)) (pa_cons pe_int pa_nil)))) pa_nil)) (pg_name (i := 1) scLaw.nd rfl (Or.inl rfl))
        (pss_cons (ps_set (i := 2) scLaw.nd rfl (.inr rfl) (pe_call E1 hr0 rfl m1 k1 b1 .nil pass0 (pa_cons (pv 0) (pa_cons (pv 1) pa_nil))))
        (pss_cons (ps_setLc (i := 3) (own := [("_law_k", 4)]) rfl scLaw.nd rfl rfl (by rfl) (pi_range1 (by rfl) B.range (pa_cons (pe_op op_add pe_int (pe_call E2 hr0 rfl m2 k2 b2 .nil pass0 (pa_cons (pv 2) (pa_cons pe_int pa_nil)))) pa_nil)) (blkOk_by (N := NLaw) (sc := defScope sLaw) (by decide +kernel))
          (fun _ _ _ _ _ => pg_name (i := 4) scLaw.nd rfl (Or.inl rfl)) (fun _ _ _ _ _ => pts_nil) (te := tCall (spWorkL K) [] E0 (tCons (tVar 2) tNil)) (fun _ _ _ _ _ => by exact pe_call E5 hr0 rfl m5 k5 b5 .nil pass0 (pa_cons (pv 2) pa_nil)))
        (pss_cons (ps_set (i := 5) scLaw.nd rfl (.inl rfl) (pe_disp (pps_cons pe_str (pe_call E3 hr0 rfl m3 k3 b3 .nil pass0 (pa_cons (pv 2) (pa_cons (pe_lst (pa_cons pe_int (pa_cons pe_int (pa_cons pe_int (pa_cons pe_non pa_nil))))) pa_nil))) (pps_cons pe_str (pe_call E3 hr0 rfl m3 k3 b3 .nil pass0 (pa_cons (pv 2) (pa_cons (pe_lst (pa_cons pe_int (pa_cons pe_non pa_nil))) pa_nil))) pps_nil)) (by rfl) (by rfl) (fun z => by cases z) (by decide)))
        (pss_cons (ps_set (i := 6) scLaw.nd rfl (.inl rfl) (pe_tup (pa_cons (pv 3) (pa_cons pe_dnewK (pa_cons (pe_lst pa_nil) (pa_cons (pv 5) pa_nil))))))
        (pss_cons (ps_par (i := 7) (j := 8) rfl scLaw.nd rfl rfl (by decide) rfl rfl (pa_cons (pe_makeH MR GR hr rfl mR bR .nil (fun _ => rfl) (pa_cons (pe_call E7 hr0 rfl m7 k7 b7 .nil pass0 (pa_cons (pv 6) pa_nil)) pa_nil)) (pa_cons (pe_call E8 hr0 rfl m8 k8 b8 .nil pass0 (pa_cons (pv 6) pa_nil)) pa_nil)) (by rfl))
        (pss_cons (ps_for PassesOwn.never rfl (pi_range1 (by rfl) B.range (pa_cons pe_int pa_nil)) (pg_name (i := 9) scLaw.nd rfl (Or.inl rfl))
          (pss_cons (ps_if (pt_cmpR (op_eqD hr.units) (pe_call E9 hr0 rfl m9 k9 b9 .nil pass0 (pa_cons (pv 8) pa_nil)) (pe_lst pa_nil) (nomark _)) (pss_one ps_break) pss_nil)
          (pss_cons (ps_set (i := 4) scLaw.nd rfl (.inl rfl) (pe_call E3 hr0 rfl m3 k3 b3 .nil pass0 (pa_cons (pv 2) (pa_cons (pe_call E9 hr0 rfl m9 k9 b9 .nil pass0 (pa_cons (pv 8) pa_nil)) pa_nil))))
          (pss_cons (ps_set (i := 8) scLaw.nd rfl (.inl rfl) (pe_call E10 hr0 rfl m10 k10 b10 .nil pass0 (pa_cons (pv 6) (pa_cons (pv 8) (pa_cons (pv 4) pa_nil)))))
          (pss_cons (ps_if (PW.pt (pw_or (pt_not (pt_val (pe_call E4 hr0 rfl m4 k4 b4 .nil pass0 (pa_cons (pe_methJ (pv 7) XR.cl hO GO hr0 bO .nil (fun _ => rfl) (pa_cons (pv 4) pa_nil)) (pa_cons (pe_ix ix_tup (pe_ix ix_list (pe_ix ix_tup (pv 8) pe_int (fun _ _ => rfl)) (pe_un un_neg pe_int) (fun _ _ => rfl)) pe_int (fun _ _ => rfl)) pa_nil)))))
              (pw_or1 (pt_not (pt_val (pe_call E4 hr0 rfl m4 k4 b4 .nil pass0 (pa_cons (pe_meth0 (pv 7) XR.cl h1 EA hr0 c1 .nil pass0) (pa_cons (pe_call E9 hr0 rfl m9 k9 b9 .nil pass0 (pa_cons (pv 8) pa_nil)) pa_nil)))))))) (pss_one (ps_ret pe_bl)) pss_nil)
          (pss_one (ps_if (pt_not (pt_val (pe_call E4 hr0 rfl m4 k4 b4 .nil pass0 (pa_cons (pe_lst (pa_cons (pe_meth (pv 7) XR.cl h3 EC hr0 c3 .nil passN (pa_cons pe_str pa_nil)) (pa_cons (pe_meth (pv 7) XR.cl h3 EC hr0 c3 .nil passN (pa_cons pe_str pa_nil)) pa_nil)))
              (pa_cons (pe_lst (pa_cons (pe_dget hu (pe_ix ix_tup (pe_ix ix_tup (pv 8) pe_int (fun _ _ => rfl)) pe_int (fun _ _ => rfl)) pe_str (fun _ _ => rfl)) (pa_cons (pe_dget hu (pe_ix ix_tup (pe_ix ix_tup (pv 8) pe_int (fun _ _ => rfl)) pe_int (fun _ _ => rfl)) pe_str (fun _ _ => rfl)) pa_nil))) pa_nil))))) (pss_one (ps_ret pe_bl)) pss_nil)))))))
        (pss_cons (ps_set (i := 10) scLaw.nd rfl (.inl rfl) (pe_callB (cr_any rfl) (by rfl) mAny (by decide +kernel) (pa_cons (pe_lc (own := [("_law_stand_here", 11)]) rfl scLaw.nd (pi_list (pe_ix ix_tup (pv 8) pe_int (fun _ _ => rfl))) (blkOk_by (N := NLaw) (sc := defScope sLaw) (by decide +kernel))
            (fun _ _ _ _ _ => pg_name (i := 11) scLaw.nd rfl (Or.inl rfl)) (fun _ _ _ _ _ => pts_nil) (te := tOp rEq (tIx K (tIx K (tVar 11) (tC (.int 0))) (tC (.int 0))) (tC (.str "wish"))) (fun _ _ _ _ _ => by exact pe_cmpR op_eq (pe_ix ix_tup (pe_ix ix_tup (pv 11) pe_int (fun _ _ => rfl)) pe_int (fun _ _ => rfl)) pe_str (nomark _))) pa_nil)))
        (pss_one (ps_if (pt_not (pt_val (pe_call E4 hr0 rfl m4 k4 b4 .nil pass0 (pa_cons (pe_lst (pa_cons (pe_meth0 (pv 7) XR.cl h4 EV hr0 c4 .nil pass0) (pa_cons (pe_meth0 (pv 7) XR.cl h5 EZ hr0 c5 .nil pass0) (pa_cons (pe_meth0 (pv 7) XR.cl h2 ET hr0 c2 .nil pass0) pa_nil)))) (pa_cons (pe_lst (pa_cons pe_bl (pa_cons (pv 10) (pa_cons (pe_call E11 hr0 rfl m11 k11 b11 .nil pass0 (pa_cons (pv 8) pa_nil)) pa_nil)))) pa_nil))))) (pss_one (ps_ret pe_bl)) pss_nil)))))))))) (pss_one (ps_ret pe_bl)), ?_⟩
    subst hn
    have one : 1 ≤ sizeLine := small_sz (n := 1) (by decide)
    obtain ⟨m0, hm0, m06⟩ : ∃ m : Nat, (3 : Int) + (if (3 : Int) < (((ns.map V.int).length : Nat) : Int) then (3 : Int) else (((ns.map V.int).length : Nat) : Int)) = (m : Int) ∧ m ≤ 6 := by
      split
      · exact ⟨6, rfl, Nat.le_refl _⟩
      · exact ⟨3 + (ns.map V.int).length, by omega, by omega⟩
    refine ⟨_, rfl, a, _, rfl, .inl hns, _, _, rfl, ?_⟩
    refine ⟨_, _, rfl, rfl, (m0 : Int), by rw [← hm0], by omega, by omega, ?_⟩
    refine for_range (lo := 0) (n := m0) (fun i σ H' => ∃ q1 q2 q3 q4 q5 q6 q7 q8 q9 q10 q11 : Option V, σ = [some (.ref a), q1, q2, q3, q4, q5, q6, q7, q8, q9, q10, q11] ∧ ExtN H H' ∧ Tabs T H') ⟨_, _, _, _, _, _, _, _, _, _, _, rfl, ExtN.refl H, hT⟩ ?_ ?_
    · rintro turn σ Hs hturn ⟨q1, q2, q3, q4, q5, q6, q7, q8, q9, q10, q11, rfl, eHs, tHs⟩
      -- the draws
      have hns1 : SqL K Hs a (ns.map V.int) := by
        rcases hns with (h | ⟨o, h⟩) | h
        · exact .inl (.inl (eHs _ _ h fun _ z => (nomatch z)))
        · exact .inl (.inr ⟨o, eHs _ _ h fun _ z => (nomatch z)⟩)
        · exact .inr h
      refine ⟨_, rfl, _, rfl, a, ns, turn, by rw [Int.zero_add]; rfl, hns1, few, fun p x0 y0 hp => ?_⟩
      have P1 : ∀ b o, Hs b = some o → (upd Hs p (.lst [.int x0, .int y0, .int 0])) b = some o := fun b o e => (upd_ne (ne_of_none e hp)).trans e
      have T1 : Tabs T (upd Hs p (.lst [.int x0, .int y0, .int 0])) := tabs_same P1 tHs
      have p1 : ∃ x y z : Int, (upd Hs p (.lst [.int x0, .int y0, .int 0])) p = some (.lst [.int x, .int y, .int z]) := ⟨_, _, _, upd_same⟩
      generalize upd Hs p (.lst [.int x0, .int y0, .int 0]) = H1 at *
      obtain ⟨u1, u2, u3, p1'⟩ := p1
      -- the works
      refine ⟨_, rfl, p, u1, u2, u3, 2, rfl, p1', by decide, by decide, fun rr a1 b1' c1' lo hi => ?_⟩
      obtain ⟨m, hm, m2, m3'⟩ : ∃ m : Nat, 2 + rr = (m : Int) ∧ 2 ≤ m ∧ m ≤ 3 := ⟨(2 + rr).toNat, by omega, by omega, by omega⟩
      refine ⟨_, _, rfl, rfl, (m : Int), by rw [← hm], by omega, by omega, fun D hD => ?_⟩
      have P2 : PutP p H1 (upd H1 p (.lst [.int a1, .int b1', .int c1'])) := .put
      have T2 : Tabs T (upd H1 p (.lst [.int a1, .int b1', .int c1'])) := tabs_lst p1' T1
      generalize upd H1 p (.lst [.int a1, .int b1', .int c1']) = H2 at *
      have Dp : D ≠ p := fun e => by
        obtain ⟨x, y, z, q⟩ := P2.p
        rw [e, q] at hD
        cases hD
      refine lc_range (lo := 0) (n := m) (fun i H' => PutP p H2 H' ∧ ∃ (rls : List Addr) (rowss : List (List Row)), H' D = some (.lst (rls.map V.ref)) ∧ rls.length = i ∧ rowss.length = i ∧ (∀ (j : Nat) (rl : Addr) (rows : List Row), rls[j]? = some rl → rowss[j]? = some rows → rl ≠ p ∧ rl ≠ D ∧ RowsAt K H' rl rows) ∧ ∀ rows ∈ rowss, RowsG K H' rows)
        ⟨PutP.same (same_new hD) P2.p, [], [], upd_same, rfl, rfl, fun j rl rows h => (nomatch h), fun rows h => (nomatch h)⟩ (fun i H3 hi z => ?_) (fun H3 z => ?_)
      · obtain ⟨P3, rls, rowss, hd3, l1, l2, each, good⟩ := z
        refine ⟨rfl, yesI (iteT ?_)⟩
        refine ⟨_, rfl, p, rfl, P3.p, fun rl rows H4 P4 fr rat gd fw => ?_⟩
        have hd4 := P4.k _ _ Dp hd3
        have rp : rl ≠ p := fun e => by
          obtain ⟨x, y, z, q⟩ := P3.p
          rw [e, q] at fr
          cases fr
        have rD : rl ≠ D := fun e => by
          rw [e, hd3] at fr
          cases fr
        have F4 : Frm (fun b => b = p ∨ b = D) H3 (upd H4 D (.lst (rls.map V.ref ++ [.ref rl]))) := ⟨fun b o nb e => (upd_ne (fun z => nb (.inr z))).trans (P4.k _ _ (fun z => nb (.inl z)) e), fun b o e n1 n2 => (upd_ne (fun z => by
          rw [z, hd3] at e
          exact n1 _ (Option.some.inj e).symm)).trans ((P4.frm P3.p (B := fun b => b = p) rfl).d b o e n1 n2)⟩
        refine ⟨rls.map V.ref, hd4, ?_, ⟨fun b o e1 e2 => ?_, ?_⟩, rls ++ [rl], rowss ++ [rows], by rw [List.map_append]; exact upd_same, by rw [List.length_append, l1]; rfl, by rw [List.length_append, l2]; rfl, fun j rl' rows' h1 h2 => ?_, fun rows' h => ?_⟩
        · rw [List.length_map, l1]
          exact Nat.lt_of_lt_of_le (by omega : i < 5) (small_sz (n := 5) (by decide))
        · rw [upd_ne (ne_of_none e2 hD)]
          exact P4.k _ _ e1 (P3.k _ _ e1 e2)
        · obtain ⟨x, y, z, q⟩ := P4.p
          exact ⟨x, y, z, (upd_ne (Ne.symm Dp)).trans q⟩
        · by_cases c : j < i
          · rw [List.getElem?_append_left (by omega)] at h1 h2
            obtain ⟨g1, g2, g3⟩ := each j rl' rows' h1 h2
            exact ⟨g1, g2, g3.frm (fun z => z.elim g1 g2) F4⟩
          · have z := (List.getElem?_eq_some_iff.mp h1).1
            rw [List.length_append] at z
            have ej : j = i := by
              have : j < rls.length + 1 := z
              omega
            rw [List.getElem?_append_right (by omega), show j - rls.length = 0 by omega] at h1
            rw [List.getElem?_append_right (by omega), show j - rowss.length = 0 by omega] at h2
            cases h1
            cases h2
            obtain ⟨xs, g1, g2, g3⟩ := rat.ex
            exact ⟨rp, rD, xs, (upd_ne rD).trans g1, g2, fun a b c d e => (g3 a b c d e).tk (tk_lst hd4)⟩
        · rcases List.mem_append.mp h with h | h
          · exact ⟨fun r hr => ((good rows' h).good r hr).tk F4.tk, (good rows' h).few⟩
          · rw [List.mem_singleton.mp h]
            exact ⟨fun r hr => (gd r hr).tk (tk_lst hd4), fw⟩
      obtain ⟨P3, rls, rowss, hd3, l1, l2, each, good⟩ := z
      have T3 : Tabs T H3 := tabs_dk (P3.frm P2.p (B := fun b => b = p) rfl).d T2
      have E3 : ∀ b o, Hs b = some o → H3 b = some o := fun b o e => P3.k _ _ (ne_of_none e hp) (P2.k _ _ (ne_of_none e hp) (P1 _ _ e))
      -- the sizes
      obtain ⟨w1, w2, w3, hp3⟩ := P3.p
      refine fun d hd => ⟨_, rfl, four_sz, fun l hl => ?_⟩
      have dp : d ≠ p := fun e => by
        rw [e, hp3] at hd
        cases hd
      have sd := same_new (o := .dK []) hd
      have d4 : (upd H3 d (.dK [])) d = some (.dK []) := upd_same
      have hp4 := sd _ _ hp3
      generalize upd H3 d (.dK []) = H4 at *
      have sl := same_new (o := .lst [.int 1, .int 2, .int 3, .non]) hl
      have lp : l ≠ p := fun e => by
        rw [e, hp4] at hl
        cases hl
      refine ⟨p, l, w1, w2, w3, _, rfl, sl _ _ hp4, SqL.of upd_same, by show 0 < 4; decide, by show 4 ≤ 1000; decide, fun a' b' c' => SqL.of ((upd_ne lp).trans upd_same), fun j vb a' b' c' hj => ?_⟩
      have hvb : SizeV vb := by
        match j, hj with
        | 0, hj => cases hj; exact .inr ⟨_, rfl, by decide⟩
        | 1, hj => cases hj; exact .inr ⟨_, rfl, by decide⟩
        | 2, hj => cases hj; exact .inr ⟨_, rfl, by decide⟩
        | 3, hj => cases hj; exact .inl rfl
      have P4 : PutP p H4 (upd (upd H4 l (.lst [.int 1, .int 2, .int 3, .non])) p (.lst [.int a', .int b', .int c'])) := (PutP.same sl ⟨_, _, _, hp4⟩).trans .put
      generalize upd (upd H4 l (.lst [.int 1, .int 2, .int 3, .non])) p (.lst [.int a', .int b', .int c']) = H5 at *
      obtain ⟨w4, w5, w6, hp5⟩ := P4.p
      refine ⟨_, rfl, two_sz, fun l2' hl2 => ?_⟩
      have sl2 := same_new (o := .lst [.int 1, .non]) hl2
      have lp2 : l2' ≠ p := fun e => by
        rw [e, hp5] at hl2
        cases hl2
      refine ⟨p, l2', w4, w5, w6, _, rfl, sl2 _ _ hp5, SqL.of upd_same, by show 0 < 2; decide, by show 2 ≤ 1000; decide, fun a' b' c' => SqL.of ((upd_ne lp2).trans upd_same), fun j vc a' b' c' hj => ?_⟩
      have hvc : SizeV vc := by
        match j, hj with
        | 0, hj => cases hj; exact .inr ⟨_, rfl, by decide⟩
        | 1, hj => cases hj; exact .inl rfl
      have P5 : PutP p H5 (upd (upd H5 l2' (.lst [.int 1, .non])) p (.lst [.int a', .int b', .int c'])) := (PutP.same sl2 ⟨_, _, _, hp5⟩).trans .put
      generalize upd (upd H5 l2' (.lst [.int 1, .non])) p (.lst [.int a', .int b', .int c']) = H6 at *
      have P46 := P4.trans P5
      have d6 : H6 d = some (.dK []) := P46.k _ _ dp d4
      refine ⟨d6, [(Sum.inr ("b" : Str), vb), (Sum.inr ("c" : Str), vc)], rfl, (by show 2 ≤ 15; decide), ?_⟩
      have em : mergeK [] [(Sum.inr ("b" : Str), vb), (Sum.inr ("c" : Str), vc)] = [(Sum.inr ("b" : Str), vb), (Sum.inr ("c" : Str), vc)] := by rfl
      rw [em]
      have sz9 : SzOk [(Sum.inr ("b" : Str), vb), (Sum.inr ("c" : Str), vc)] := ⟨vb, vc, rfl, hvb, hvc⟩
      generalize [(Sum.inr ("b" : Str), vb), (Sum.inr ("c" : Str), vc)] = sizes at *
      -- the plan
      refine ⟨_, rfl, fun bx hbx => ⟨Nat.zero_le _, fun lk hlk => ⟨_, rfl, four_sz, fun pl hpl => ?_⟩⟩⟩
      have d3 : H3 d = none := hd
      have P37 : PutP p H3 (upd H6 d (.dK sizes)) := ⟨fun b o n e => (upd_ne (ne_of_none e d3)).trans (P46.k _ _ n (sd _ _ e)), by
        obtain ⟨x, y, z, q⟩ := P46.p
        exact ⟨x, y, z, (upd_ne (Ne.symm dp)).trans q⟩⟩
      have d7 : (upd H6 d (.dK sizes)) d = some (.dK sizes) := upd_same
      generalize upd H6 d (.dK sizes) = H7 at *
      have s8 := same_new (o := .dK []) hbx
      have s9 := same_new (o := .lst []) hlk
      have s10 := same_new (o := .tup [.ref D, .ref bx, .ref lk, .ref d]) hpl
      have S79 := s8.trans (s9.trans s10)
      have P39 := P37.trans (PutP.same S79 P37.p)
      have dD := S79 _ _ (P37.k _ _ Dp hd3)
      have dd := S79 _ _ d7
      have dbx := s10 _ _ (s9 _ _ (upd_same (H := H7) (a := bx) (o := .dK [])))
      have dlk := s10 _ _ (upd_same (H := upd H7 bx (.dK [])) (a := lk) (o := .lst []))
      have dpl : (upd (upd (upd H7 bx (.dK [])) lk (.lst [])) pl (.tup [.ref D, .ref bx, .ref lk, .ref d])) pl = some (.tup [.ref D, .ref bx, .ref lk, .ref d]) := upd_same
      have lkp : lk ≠ p := fun e => by
        obtain ⟨x, y, z, q⟩ := P37.p
        rw [e, s8 _ _ q] at hlk
        cases hlk
      generalize upd (upd (upd H7 bx (.dK [])) lk (.lst [])) pl (.tup [.ref D, .ref bx, .ref lk, .ref d]) = H9 at *
      have F39 : Frm (fun b => b = p) H3 H9 := P39.frm P3.p rfl
      have T9 : Tabs T H9 := tabs_dk F39.d T3
      have E9x : ∀ b o, Hs b = some o → H9 b = some o := fun b o e => F39.l b o (ne_of_none e hp) (E3 b o e)
      have good9 : ∀ rows ∈ rowss, RowsG K H9 rows := fun rows h => ⟨fun r hr => ((good rows h).good r hr).tk F39.tk, (good rows h).few⟩
      have nb : ∀ {b : Addr} {o : HO}, b ≠ p → H9 b = some o → (∀ ps, o ≠ .tbl ps) → ¬ (b = p ∨ ∀ o, H9 b = some o → ∃ ps, o = HO.tbl ps) := fun {b o} n e nt z => z.elim n fun z => by
        obtain ⟨ps, h⟩ := z o e
        exact nt ps h
      have plan9 : PlanAt K (fun b => b = p ∨ ∀ o, H9 b = some o → ∃ ps, o = HO.tbl ps) H9 pl rowss sizes := by
        refine ⟨D, bx, lk, d, rls.map V.ref, SqT.of dpl, ⟨dD, nb Dp dD fun _ z => (nomatch z)⟩, by rw [List.length_map]; omega, fun i x rows h1 h2 => ?_, dbx, ⟨dlk, nb lkp dlk fun _ z => (nomatch z)⟩, dd⟩
        rw [List.getElem?_map] at h1
        obtain ⟨rl, g1, rfl⟩ := Option.map_eq_some_iff.mp h1
        obtain ⟨g2, g3, g4⟩ := each i rl rows g1 h2
        have g5 := g4.frm (B := fun b => b = p) g2 F39
        obtain ⟨xs, g6, _⟩ := g5.ex
        exact ⟨rl, rfl, nb g2 g6 fun _ z => (nomatch z), g5⟩
      have p9 : ∃ x y z : Int, H9 p = some (.lst [.int x, .int y, .int z]) := P39.p
      clear good each P37 P39 P46 P4 P5 s8 s9 s10 S79 dD dd dlk dbx dpl lkp nb d3 F39 hlk hbx hpl d6 d7 dp hd sd d4 hp4 sl lp hl hvb hvc hp5 sl2 lp2 hl2 em hp3
      -- the shop
      have bcn : (["b", "c"] : List Str).Nodup := by decide +kernel
      refine ⟨_, rfl, pl, _, rowss, _, ["b", "c"], rfl, plan9, T9, by omega, by omega, sz_keys sz9, bcn, fun z hz => ?_, by decide, sz_all sz9, fun sh S0 gs H10 e10 T10 hS wS mS cS lS nS bS works => ?_⟩
      · rcases List.mem_cons.mp hz with rfl | hz
        · decide +kernel
        · rw [List.mem_singleton.mp hz]
          decide +kernel
      obtain ⟨gF, cF, eF, rF, pk⟩ := works.pick
      refine fun r dx0 hr hdx hne => ?_
      have sM : Same H10 (upd (upd H10 dx0 (.own r)) r (.ins CR dx0 [])) := fun b o e => by
        rw [upd_ne (ne_of_none e hr), upd_ne (ne_of_none e hdx)]
        exact e
      have oM : (upd (upd H10 dx0 (.own r)) r (.ins CR dx0 [])) r = some (.ins CR dx0 []) := upd_same
      generalize upd (upd H10 dx0 (.own r)) r (.ins CR dx0 []) = H11 at *
      have wk11 : ∀ (i : Nat) (rows : List Row), rowss[i]? = some rows → S0.works[i]? = some (.ref (gF i)) ∧ WorkAt H11 (gF i) (cF i) (eF i) (rF i) := fun i rows h => ⟨by rw [wS, List.getElem?_map, (pk i rows h).1]; rfl, (pk i rows h).2.1.ext (ExtN.of sM)⟩
      have xL : ExtL H11 (trL gF cF eF rowss.length) := extL_tr (rF := rF) fun i hi => (wk11 i _ (List.getElem?_eq_getElem hi)).2
      have fewR : ∀ {i : Nat} {rows : List Row}, rowss[i]? = some rows → i < rowss.length := fun h => (List.getElem?_eq_some_iff.mp h).1
      refine ⟨_, xL, fun B kb => ?_⟩
      have Wk := WK _ _ _ _ _ rfl rfl rfl rfl rfl kb S0 rowss gF cF eF rF H9 fun i rows h => ⟨(wk11 i rows h).1, (wk11 i rows h).2, (trL_mem (fewR h)).1, (trL_mem (fewR h)).2.1, (trL_mem (fewR h)).2.2, by
        rw [nS]
        exact rowsOk_good rfl (good9 rows (List.mem_of_getElem? h)).few (good9 rows (List.mem_of_getElem? h)).good⟩
      have nx := NX.hid xL
      refine new_runK hx Wk (nx.shop (hS.same sM)) ⟨((extN_tk e10).trans (TK.of sM)).trans nx.sq, fun i rows h => nx.rows ((pk i rows h).2.2.2.same sM)⟩ (nx _ _ oM fun _ z => (nomatch z)) mS (by omega) cS lS nS bcn (by decide) fun R H' but f1 f2 RK => ⟨rfl, fun free => ?_⟩
      have b12 : But r H11 (reL H11 H' (trL gF cF eF rowss.length)) := fun b o n e => re_keep (Bad := fun b => b = r) (fun b o nb e => but b o nb e) b o n e
      have RK2 := RK.nx (H' := reL H11 H' (trL gF cF eF rowss.length)) fun b o q _ => same_re free b o q
      have back : ∀ {b : Addr} {o : HO}, H' b = some o → hidL H11 (trL gF cF eF rowss.length) b = none → H10 b = none := fun {b o} e z => by
        by_cases m : b ∈ trL gF cF eF rowss.length
        · rw [free b m] at e
          cases e
        · rw [hidL_out m] at z
          exact sM.free z
      have hpl := back RK.run.at_.p f1
      have hdn := back RK.run.at_.d f2
      generalize reL H11 H' (trL gF cF eF rowss.length) = H12 at *
      have e12 : Same H10 H12 := fun b o e => b12 b o (ne_of_none e hr) (sM b o e)
      have p10 : ∃ x y z : Int, H10 p = some (.lst [.int x, .int y, .int z]) := by
        obtain ⟨x, y, z, q⟩ := p9
        exact ⟨x, y, z, e10 _ _ q fun _ z => (nomatch z)⟩
      clear kb Wk nx xL back free but f1 f2 RK b12 oM
      -- the state
      refine ⟨_, rfl, pl, _, rowss, sizes, ["b", "c"], ["b", "c"], rfl, (plan9.extN e10).frm (.of e12), by omega, fun rows h => ?_, sz_keys sz9, bcn, by decide, fun sx0 H13 s13 st13 => ?_⟩
      · exact (rowsOk_good rfl (good9 rows h).few (good9 rows h).good).tk ((extN_tk e10).trans (TK.of e12))
      have S13 := e12.trans s13
      have hB9 : ∀ b, (b = p ∨ b = r ∨ b = R.pl ∨ b = R.dn) → (b = p ∨ ∀ o, H9 b = some o → ∃ ps, o = HO.tbl ps) := by
        rintro b (rfl | rfl | rfl | rfl)
        · exact .inl rfl
        · exact .inr (free_back e10 hr)
        · exact .inr (free_back e10 hpl)
        · exact .inr (free_back e10 hdn)
      have np : ∀ {b : Addr}, H10 b = none → b ≠ p := fun e z => by
        obtain ⟨x, y, w, q⟩ := p10
        rw [z, q] at e
        cases e
      have rp := np hr
      have plp := np hpl
      have dnp := np hdn
      have TF : TurnF K CS T Hs H9 (fun b => b = p ∨ b = r ∨ b = R.pl ∨ b = R.dn) p pl sh S0 rowss sizes gF cF eF rF H13 := by
        refine ⟨?_, fun b o e nt => S13 _ _ (e10 _ _ (E9x b o e) nt), tabs_same S13 T10, ?_, .inl rfl, ((plan9.extN e10).frm (.of S13)).weak hB9, ?_, hS.same S13, (extN_tk e10).trans (TK.of S13), fun i rows h z => (pk i rows h).2.2.1 (hB9 _ z), fun i rows h => (pk i rows h).2.2.2.same S13, fun i rows h => ⟨(wk11 i rows h).1, (pk i rows h).2.1.ext (ExtN.of S13)⟩⟩
        · intro b o hb q
          rcases hB9 b hb with rfl | z
          · rw [hp] at q
            cases q
          · exact z o (E9x b o q)
        · obtain ⟨x, y, z, q⟩ := p10
          exact ⟨x, y, z, S13 _ _ q⟩
        · rintro (z | z | z | z)
          · obtain ⟨x, y, w, q⟩ := p10
            rw [← z, hS.ob] at q
            cases q
          · rw [← z, hS.ob] at hr
            cases hr
          · rw [← z, hS.ob] at hpl
            cases hpl
          · rw [← z, hS.ob] at hdn
            cases hdn
      have SF : StepF K CR CT CP H9 p r R.pl R.dn sh rowss sizes H13 R sx0 (emp sizes ["b", "c"]) (rowss.map fun _ => []) none := by
        rw [bS] at RK2
        refine ⟨RK2.nx fun b o e _ => s13 b o e, rfl, rfl, st13.weak ?_, rfl, rfl, fun nm _ v hv => (nomatch hv), fun nm _ => Nat.zero_le _, List.length_map .., fun i rows ans h1 h2 => ?_, fun ans h => ?_⟩
        · obtain ⟨x, y, z, q⟩ := p10
          rintro b (rfl | rfl | rfl | rfl) zz
          · rw [e12 _ _ q] at zz
            cases zz
          · rw [RK2.run.at_.ob] at zz
            cases zz
          · rw [RK2.run.at_.p] at zz
            cases zz
          · rw [RK2.run.at_.d] at zz
            cases zz
        · rw [List.getElem?_map] at h2
          obtain ⟨_, _, rfl⟩ := Option.map_eq_some_iff.mp h2
          exact Nat.zero_le _
        · obtain ⟨_, _, rfl⟩ := List.mem_map.mp h
          exact fun a ha => (nomatch ha)
      have rowN : ∀ rows ∈ rowss, rows.length ≤ 5 := fun rows h => (good9 rows h).few
      have l34 : rowss.length ≤ 3 := by omega
      have T0 := eHs
      clear pk e12 s13 st13 RK2 S13 hr hdx hne hpl hdn hB9 np p10 plan9 p9 T9 E9x sM wk11 hS wS mS cS lS bS works T10 e10 hp P1 P2 P3 T1 T2 T3 E3
      generalize hpls : R.pl = pls at *
      generalize hdns : R.dn = dns at *
      -- the steps
      refine ⟨_, _, rfl, 60, rfl, by decide, by decide, ?_⟩
      refine for_range (lo := 0) (n := 60) (fun i σ H' => ∃ (q4 q9 q10 q11 : Option V) (sx : Addr) (R' : RS) (S1 : Sto) (anss : List (List V)) (last : Option V), σ = [some (.ref a), some (.int (0 + (turn : Nat))), some (.ref p), some (.ref D), q4, some (.ref d), some (.ref pl), some (.ref r), some (.ref sx), q9, q10, q11] ∧ TurnF K CS T Hs H9 (fun b => b = p ∨ b = r ∨ b = pls ∨ b = dns) p pl sh S0 rowss sizes gF cF eF rF H' ∧ StepF K CR CT CP H9 p r pls dns sh rowss sizes H' R' sx S1 anss last ∧ (anss.map List.length).sum = i)
        ⟨_, _, _, _, _, _, _, _, _, rfl, TF, SF, by rw [List.map_map]; exact sum_zero rowss⟩ ?_ ?_
      · clear TF SF hpls
        rintro i σ H' hi' ⟨q4, q9, q10, q11, sx, R', S1, anss, last, rfl, TF, SF, hs⟩
        have sm15 : (anss.map List.length).sum ≤ 15 := by
          have := sum_le SF.la rowN SF.le
          omega
        have so9 := SF.so (H := H') TF.tk sz9 (by omega)
        have okR : ∀ {G : Hp}, TK K H9 G → ∀ rows ∈ rowss, RowsOk K G 3 S1.bk rows := fun tk rows h => by
          rw [SF.ebk]
          exact (rowsOk_good rfl (good9 rows h).few (good9 rows h).good).tk tk
        obtain ⟨g, hg⟩ : ∃ g : Nat → Bool, ∀ (i : Nat) (rows : List Row) (ans : List V), rowss[i]? = some rows → anss[i]? = some ans → g i = canM S1 rows ans := canF rowss anss S1
        refine ⟨_, rfl, sx, _, rowss, S1, anss, last, g, rfl, SF.st, by omega, okR TF.tk, so9, hg, fun C1 G1 hC1 s1 e1 => ?_⟩
        refine ⟨Nat.zero_le _, fun k2 hk2 => ?_⟩
        have t1 := s1.trans (same_new (o := .lst []) hk2)
        have ez : (upd G1 k2 (.lst [])) k2 = some (.lst []) := upd_same
        have e1' := same_new (o := .lst []) hk2 _ _ e1
        generalize upd G1 k2 (.lst []) = G2 at *
        rw [upTo_upN] at e1'
        refine ⟨.list ((upN g rowss.length).map fun k => PyData.int (k : Nat)), .list [], .lst (SqL.of e1') (dpall_nat _), .lst (SqL.of ez) .nil, shaped_nat _ (Nat.le_trans (upN_len _ _) (by omega)), rfl, ?_⟩
        rw [eqv_upN]
        have SF2 := SF.same t1
        have TF2 := TF.same t1
        have RX := SF2.run.run.at_
        have pl3 : R'.places.length ≤ 1000 := by
          have := SF.run.len
          omega
        have can2 := SF2.run.can SF2.la (okR TF2.tk) (so9.tk (TK.of t1)) hg
        refine ⟨_, rfl, ?_⟩
        cases eu : upN g rowss.length with
        | nil =>
          refine iteT ?_
          -- whether any work waits
          obtain ⟨st, al, sl, pl2, axs, sxs, pxs, y1, y2, ⟨y3, n3⟩, ⟨y4, n4⟩, ⟨y5, n5⟩, l0, l1', l2', l3, y6, y7, y8, y9⟩ := SF2.st.ex
          refine ⟨_, rfl, sx, _, 2, _, rfl, rfl, y1, atI_nat (j := 2) rfl, sl, rfl, ⟨_, SqL.of y4⟩, fun D2 hD2 => ?_⟩
          have wl := waits_len SF.la
          refine lc_it (walk_list (K := K) (a := sl) (xs := sxs)) (fun i H' => Same G2 H' ∧ H' D2 = some (.lst (((waits rowss anss).take i).map V.bl))) ⟨same_new hD2, upd_same⟩ (fun i H' _ p => SqL.of (p.1 _ _ y4)) (fun i x G3 H'' hi p y => ?_) (fun G3 p => ?_)
          · obtain ⟨rfl, hx0⟩ := y
            obtain ⟨sm, hd⟩ := p
            obtain ⟨rows, hrow⟩ : ∃ rows, rowss[i]? = some rows := ⟨_, List.getElem?_eq_getElem (l2' ▸ hi)⟩
            obtain ⟨ans, hans⟩ : ∃ ans, anss[i]? = some ans := ⟨_, List.getElem?_eq_getElem (by omega)⟩
            obtain ⟨t, pp, u, rfl, r1, r2, r3⟩ := (y7 i x rows ans hx0 hrow hans).tk (TK.of sm) |>.ex
            have wi := waits_at hrow hans
            have hi3 : i < rowss.length := l2' ▸ hi
            have fin : ∀ b : Bool, b = decide (ans.length < rows.length) → ∃ acc, H'' D2 = some (.lst acc) ∧ acc.length < sizeLine ∧ (Same G2 (upd H'' D2 (.lst (acc ++ [.bl b]))) ∧ (upd H'' D2 (.lst (acc ++ [.bl b]))) D2 = some (.lst (((waits rowss anss).take (i + 1)).map V.bl))) := fun b eb => by
              refine ⟨_, hd, ?_, fun b' o e => ?_, ?_⟩
              · rw [List.length_map, List.length_take]
                exact Nat.lt_of_le_of_lt (Nat.min_le_left _ _) (Nat.lt_of_lt_of_le (by omega : i < 5) (small_sz (n := 5) (by decide)))
              · rw [upd_ne (ne_of_none e hD2)]
                exact sm _ _ e
              · rw [upd_same, List.take_add_one, wi, List.map_append, eb]
                rfl
            refine ⟨rfl, yesI (iteT ?_)⟩
            rcases r3 with ⟨lt, wt, r0, er, qp, qw⟩ | ⟨eq, qp⟩
            · refine ⟨_, rfl, t, _, _, _, rfl, rfl, r1, atI_nat (j := 0) rfl, pp, _, _, _, rfl, rfl, qp, atI_nat (j := 0) rfl, rfl, ?_⟩
              exact fin _ (by rw [decide_eq_true lt]; exact decide_eq_true rfl)
            · refine ⟨_, rfl, t, _, _, _, rfl, rfl, r1, atI_nat (j := 0) rfl, pp, _, _, _, rfl, rfl, qp, atI_nat (j := 0) rfl, rfl, ?_⟩
              exact fin _ (by rw [decide_eq_false (show ¬ ans.length < rows.length by omega)]; exact decide_eq_false (by decide +kernel))
          obtain ⟨sm, hd⟩ := p
          rw [l2', ← wl, List.take_length] at hd
          refine ⟨D2, waits rowss anss, rfl, SqL.of hd, ?_⟩
          have t3 := t1.trans sm
          have SF3 := SF.same t3
          have TF3 := TF.same t3
          have RX3 := SF3.run.run.at_
          obtain ⟨ds, da, lay, ldd, dk⟩ := fin_data SF3.run SF3.la
          have ew := waits_any rowss anss ds SF3.la ldd dk
          have can3 := SF3.run.can SF3.la (okR TF3.tk) (so9.tk (TK.of t3)) hg
          refine ⟨_, rfl, r, R'.dx, _, rfl, RX3.ob, rF_no (by decide +kernel) (by decide +kernel) (by decide +kernel) (by decide +kernel), r, R', g, rfl, RX3, pl3, can3, fun G4 s4 => ?_⟩
          rw [SF.run.len, upTo_empty eu]
          have SF4 := SF3.same s4
          have TF4 := TF3.same s4
          have R4 := SF4.run.run.at_
          refine ⟨_, rfl, r, R'.dx, _, rfl, R4.ob, rF_no (by decide +kernel) (by decide +kernel) (by decide +kernel) (by decide +kernel), r, R', g, ds, rfl, R4, pl3, SF4.run.can SF4.la (okR TF4.tk) (so9.tk (TK.of (t3.trans s4))) hg, da _ (TK.of s4), lay, fun G' s => da _ (TK.of (s4.trans s)), fun G5 s5 => ?_⟩
          rw [SF.run.len, upTo_empty eu, Bool.true_and, ew]
          have R5 := R4.same s5
          refine ⟨_, rfl, r, R'.dx, _, rfl, R5.ob, rF_no (by decide +kernel) (by decide +kernel) (by decide +kernel) (by decide +kernel), r, R', [], [], ["b", "c"], rfl, R5, pl3, by rw [SF.run.c]; rfl, by decide, by rw [SF.run.h]; rfl, by decide, by rw [← SF.ebk]; exact SF.run.w.keys, by decide, fun to oe oa ob oc ow G6 xs ys zs s6 hto hoe how hoa pa hob pb hoc pc => ?_⟩
          refine ⟨small_sz (n := 3) (by decide), fun l1 hl1 => ?_⟩
          have u7 := same_new (o := .lst [.bl true, .bl ((waits rowss anss).any id), .ref to]) hl1
          have el1 : (upd G6 l1 (.lst [.bl true, .bl ((waits rowss anss).any id), .ref to])) l1 = some (.lst [.bl true, .bl ((waits rowss anss).any id), .ref to]) := upd_same
          generalize upd G6 l1 (.lst [.bl true, .bl ((waits rowss anss).any id), .ref to]) = G7 at *
          have t7 := (((t3.trans s4).trans s5).trans s6).trans u7
          refine ⟨_, rfl, _, rfl, sx, _, rowss, S1, anss, last, rfl, (SF.same t7).st, by omega, SF.le, by rw [SF.ebk]; decide, fun t2 e2 a2 b2 c2 w2 G8 es xs2 ws s8 h2 he2 Ee ha2 hb2 hc2 pc2 hw2 lw sw => ?_⟩
          refine ⟨small_sz (n := 3) (by decide), fun l2 hl2 => ?_⟩
          have u9 := same_new (o := .lst [.bl true, .bl ((waits rowss anss).any id), .ref t2]) hl2
          have el2 : (upd G8 l2 (.lst [.bl true, .bl ((waits rowss anss).any id), .ref t2])) l2 = some (.lst [.bl true, .bl ((waits rowss anss).any id), .ref t2]) := upd_same
          generalize upd G8 l2 (.lst [.bl true, .bl ((waits rowss anss).any id), .ref t2]) = G9 at *
          have u69 := (u7.trans s8).trans u9
          have u79 := s8.trans u9
          have t9 := t7.trans u79
          have SF9 := SF.same t9
          have TF9 := TF.same t9
          have exs := pairsIn_nil pa
          have eys := pairsIn_nil pb
          subst exs eys
          have pcB : BeltsIn K G9 S1.bk S1.bc zs := by
            have z := belts_of (K := K) (bc := S1.bc) (pc.same u69) (by
              have w := SF9.run.w
              rw [SF.ebk] at w
              exact w)
            rw [SF.ebk]
            exact z
          have big : Tw K G9 7 (.ref to) (.ref t2) := out_tw SF9.run SF9.la (by omega) SF.ebk (so9.tk (TK.of t9)) (SqT.of (u69 _ _ hto)) (SqT.of (u69 _ _ hoe)) (SqT.of (u69 _ _ how)) (SqT.of (u69 _ _ hoa)) (SqT.of (u69 _ _ hob)) (SqT.of (u69 _ _ hoc)) pcB
            (seqT_same u9 h2) (seqT_same u9 he2) (Ee.tk (TK.of u9)) (seqT_same u9 ha2) (seqT_same u9 hb2) (seqT_same u9 hc2) (pc2.tk (TK.of u9)) (seqT_same u9 hw2) lw (sw.tk (TK.of u9))
          refine ⟨_, _, rfl, .lst (SqL.of (u79 _ _ el1)) (SqL.of el2) rfl (by show 3 ≤ 1000; decide) fun j x y q1 q2 => ?_, fun G10 s10 => ?_⟩
          · match j, q1, q2 with
            | 0, q1, q2 => cases q1; cases q2; exact .bl _ _
            | 1, q1, q2 => cases q1; cases q2; exact .bl _ _
            | 2, q1, q2 => cases q1; cases q2; exact big
          · refine ⟨_, rfl, ?_⟩
            refine iteF ?_
            exact ⟨_, _, _, _, _, _, _, _, _, _, _, rfl, fun b o e n => s10 _ _ (eHs.trans TF9.ext b o e n), tabs_same s10 TF9.tabs⟩
        | cons k0 ks =>
          refine iteF ?_
          -- which work
          obtain ⟨z1, z2, z3, zp⟩ := TF2.pp
          refine ⟨_, rfl, _, rfl, sx, _, rowss, S1, anss, last, g, rfl, SF2.st, by omega, okR TF2.tk, so9.tk (TK.of t1), hg, fun C2 G3 hC2 s3 e3 => ?_⟩
          have Cp : C2 ≠ p := fun e => by
            rw [e, zp] at hC2
            cases hC2
          refine ⟨p, C2, z1, z2, z3, _, rfl, s3 _ _ zp, SqL.of e3, by rw [upTo_upN, eu]; exact Nat.succ_pos _, Nat.le_trans (upTo_len _ _) (by omega), fun a' b' c' => SqL.of ((upd_ne Cp).trans e3), fun j v a' b' c' hj => ?_⟩
          rw [upTo_upN, List.getElem?_map] at hj
          obtain ⟨kk, hjj, rfl⟩ := Option.map_eq_some_iff.mp hj
          obtain ⟨km, gk⟩ := upN_mem g _ kk (List.mem_of_getElem? hjj)
          have TF4 := (TF2.same s3).put (PutP.put (x := a') (y := b') (z := c'))
          have SF4 := (SF2.same s3).put (PutP.put (x := a') (y := b') (z := c')) (TF2.same s3).pp rp plp dnp
          have tk4 : TK K G2 (upd G3 p (.lst [.int a', .int b', .int c'])) := (TK.of s3).trans (tk_lst (s3 _ _ zp))
          generalize upd G3 p (.lst [.int a', .int b', .int c']) = G4 at *
          obtain ⟨rows, hrow⟩ : ∃ rows, rowss[kk]? = some rows := ⟨_, List.getElem?_eq_getElem km⟩
          obtain ⟨ans, hans⟩ : ∃ ans, anss[kk]? = some ans := ⟨_, List.getElem?_eq_getElem (by rw [SF.la]; exact km)⟩
          have gd := good9 rows (List.mem_of_getElem? hrow)
          have va := SF.va ans (List.mem_of_getElem? hans)
          have go : canM S1 rows ans = true := by
            rw [← hg kk rows ans hrow hans]
            exact gk
          obtain ⟨rw_, hrw, lt⟩ : ∃ r, rows[ans.length]? = some r ∧ letsM S1 r.kind r.name = true := by
            have go' := go
            unfold canM at go'
            cases h : rows[ans.length]? with
            | none =>
              rw [h] at go'
              cases go'
            | some r =>
              rw [h] at go'
              exact ⟨r, rfl, go'⟩
          have gr := gd.good rw_ (List.mem_of_getElem? hrw)
          have nk : rw_.name ∈ S1.bk := by
            rw [SF.ebk]
            exact gr.name
          obtain ⟨av, S2, dm, pav, vals2, ln2⟩ := do_ex gr nk va SF.vals lt
          have so4 := so9.tk ((TK.of t1).trans tk4)
          have pva : ∀ x ∈ ans ++ [av], PV K H9 x := fun x hx => by
            rcases List.mem_append.mp hx with hx | hx
            · exact va x hx
            · rw [List.mem_singleton.mp hx]
              exact pav
          -- the state behind it
          refine ⟨_, rfl, _, rfl, _, rfl, pl, sx, kk, _, _, rowss, sizes, S1, S2, anss, last, rows, ans, rw_, av, rfl, TF4.plan, SF4.st, hrow, hans, hrw, okR TF4.tk rows (List.mem_of_getElem? hrow), so4, by omega, by omega, dm, fun x hx => ?_, fun s2 G5 s5 st5 => ?_⟩
          · obtain ⟨dx, q⟩ := pva x hx
            exact (q.tk TF4.tk).vns
          have TF5 := TF4.same s5
          have SF5 := SF4.same s5
          -- the run behind it
          have wk5 := TF5.wk
          have xL : ExtL G5 (trL gF cF eF rowss.length) := extL_tr (rF := rF) fun i hi => (wk5 i _ (List.getElem?_eq_getElem hi)).2
          refine ⟨_, rfl, r, R'.dx, _, rfl, SF5.run.run.at_.ob, rF_no (by decide +kernel) (by decide +kernel) (by decide +kernel) (by decide +kernel), _, rfl, _, xL, fun B2 kb => ?_⟩
          have Wk := WK _ _ _ _ _ rfl rfl rfl rfl rfl kb S0 rowss gF cF eF rF H9 fun i rows h => ⟨(wk5 i rows h).1, (wk5 i rows h).2, (trL_mem (fewR h)).1, (trL_mem (fewR h)).2.1, (trL_mem (fewR h)).2.2, by
            rw [nS]
            exact rowsOk_good rfl (good9 rows (List.mem_of_getElem? h)).few (good9 rows (List.mem_of_getElem? h)).good⟩
          have nx := NX.hid xL
          have tkh : TK K G4 (hidL G5 (trL gF cF eF rowss.length)) := (TK.of s5).trans nx.sq
          refine go_play hx Wk SK (nx.shop TF5.shop) ⟨TF5.tk.trans nx.sq, fun i rows h => nx.rows (TF5.rows i rows h)⟩ (SF5.run.nx nx) SF.la hrow hans hrw (by have := gd.few; omega) (okR (TF5.tk.trans nx.sq) rows (List.mem_of_getElem? hrow)) (so4.tk tkh) (fun z => by rw [SF.ebk] at z; cases z) (by omega) go dm pva fun R2 G6 b3 e1 e2 RK free => ?_
          have b5 : ∀ bb o, ¬ (bb = r ∨ bb = pls ∨ bb = dns) → G5 bb = some o → (reL G5 G6 (trL gF cF eF rowss.length)) bb = some o := re_keep (Bad := fun b => b = r ∨ b = pls ∨ b = dns) fun bb o nb e => b3 bb o (fun z => nb (.inl z)) (fun z => nb (.inr (.inl (z.trans SF5.epl)))) (fun z => nb (.inr (.inr (z.trans SF5.edn)))) e
          have RK2 := RK.nx (H' := reL G5 G6 (trL gF cF eF rowss.length)) fun b o q _ => same_re free b o q
          generalize reL G5 G6 (trL gF cF eF rowss.length) = G7 at *
          have o5 := SF5.run.run.at_.ob
          have p5 := SF5.run.run.at_.p
          have d5 := SF5.run.run.at_.d
          rw [SF5.epl] at p5
          rw [SF5.edn] at d5
          have F57 : Frm (fun b => b = p ∨ b = r ∨ b = pls ∨ b = dns) G5 G7 := ⟨fun b o nb e => b5 b o (fun z => nb (.inr z)) e, fun b o e n1 n2 => b5 b o (fun z => by
            rcases z with rfl | rfl | rfl
            · rw [o5] at e
              exact n2 _ _ _ (Option.some.inj e).symm
            · rw [p5] at e
              exact n1 _ (Option.some.inj e).symm
            · rw [d5] at e
              exact n1 _ (Option.some.inj e).symm) e⟩
          have TF7 := TF5.step F57 (by
            obtain ⟨x, y, z, q⟩ := TF5.pp
            exact ⟨x, y, z, b5 p _ (fun h => h.elim (fun h => rp h.symm) fun h => h.elim (fun h => plp h.symm) fun h => dnp h.symm) q⟩)
          have ls := sum_set List.length (ans ++ [av]) anss kk ans hans
          rw [List.length_append] at ls
          have l1 : ([av] : List V).length = 1 := rfl
          have SF7 : StepF K CR CT CP H9 p r pls dns sh rowss sizes G7 R2 s2 S2 (anss.set kk (ans ++ [av])) (some av) := by
            refine ⟨RK2, e1.trans SF5.epl, e2.trans SF5.edn, (st5.weak fun bb hb zz => ?_).frm F57, dm.keep.1.trans SF.ebk, dm.keep.2.trans SF.esz, fun nm m => vals2 nm (dm.keep.1 ▸ m), fun nm m => ?_, by rw [List.length_set]; exact SF.la, fun i rows' ans' h1 h2 => ?_, fun ans' h => ?_⟩
            · rcases hb with rfl | rfl | rfl | rfl
              · obtain ⟨x, y, z, q⟩ := TF4.pp
                rw [q] at zz
                cases zz
              · rw [SF4.run.run.at_.ob] at zz
                cases zz
              · have q := SF4.run.run.at_.p
                rw [SF4.epl, zz] at q
                cases q
              · have q := SF4.run.run.at_.d
                rw [SF4.edn, zz] at q
                cases q
            · have z := ln2 nm (dm.keep.1 ▸ m)
              have z2 := SF.ln nm (dm.keep.1 ▸ m)
              omega
            · rcases at_set h2 with ⟨rfl, rfl, _⟩ | ⟨_, h2⟩
              · obtain rfl := Option.some.inj (hrow.symm.trans h1)
                rw [List.length_append]
                exact (List.getElem?_eq_some_iff.mp hrw).1
              · exact SF.le i rows' ans' h1 h2
            · rcases List.mem_or_eq_of_mem_set h with h | rfl
              · exact SF.va ans' h
              · exact pva
          clear b5 RK2 RK b3 kb Wk nx tkh free wk5 xL st5
          -- the answer
          obtain ⟨st, al, sl, pl2, axs, sxs, pxs, y1, y2, ⟨y3, n3⟩, ⟨y4, n4⟩, ⟨y5, n5⟩, l0, l1', l2', l3, y6, y7, y8, y9⟩ := SF7.st.ex
          obtain ⟨tl, wk', wv, hl, ht⟩ := y8 av rfl
          refine ⟨_, rfl, s2, _, 3, _, rfl, rfl, y1, atI_nat (j := 3) rfl, 1, rfl, pl2, pxs, -1, _, rfl, rfl, SqL.of y5, atI_last hl, tl, _, _, _, rfl, rfl, ht, atI_nat (j := 2) rfl, ?_⟩
          refine ⟨_, _, rfl, (pav.tw TF7.tk).le (by decide), fun G8 s8 => ⟨_, rfl, ?_⟩⟩
          refine iteF ?_
          have TF8 := TF7.same s8
          have SF8 := SF7.same s8
          have sm16 : ((anss.set kk (ans ++ [av])).map List.length).sum ≤ 900 := by omega
          have so8 := SF8.so TF8.tk sz9 sm16
          have okS : ∀ {G : Hp}, TK K H9 G → ∀ rows ∈ rowss, RowsOk K G 3 S2.bk rows := fun tk rows h => by
            rw [dm.keep.1]
            exact okR tk rows h
          obtain ⟨g', hg'⟩ := canF rowss (anss.set kk (ans ++ [av])) S2
          refine ⟨_, rfl, r, R2.dx, _, rfl, SF8.run.run.at_.ob, rF_no (by decide +kernel) (by decide +kernel) (by decide +kernel) (by decide +kernel), r, R2, g', rfl, SF8.run.run.at_, by have := SF8.run.len; omega, SF8.run.can SF8.la (okS TF8.tk) so8 hg', fun D8 G9 hD8 s9 e9 => ?_⟩
          rw [SF8.run.len] at e9
          refine ⟨_, rfl, s2, _, rowss, S2, _, some av, g', rfl, (SF8.same s9).st, by omega, okS (TF8.tk.trans (TK.of s9)), so8.tk (TK.of s9), hg', fun D9 G10 hD9 s10 e10 => ?_⟩
          refine ⟨_, _, rfl, upN_tw (by omega) (s10 _ _ e9) e10, fun G11 s11 => ⟨_, rfl, ?_⟩⟩
          refine iteF ?_
          -- the belts
          have t11 := (s9.trans s10).trans s11
          have TF11 := TF8.same t11
          have SF11 := SF8.same t11
          have so11 := so8.tk (TK.of t11)
          have W := SF11.run.w
          have eb2 : S2.bk = (["b", "c"] : List Str) := SF8.ebk
          have mb : ("b" : Str) ∈ S2.bk := by
            rw [eb2]
            decide +kernel
          have mc : ("c" : Str) ∈ S2.bk := by
            rw [eb2]
            decide +kernel
          obtain ⟨rb, vb1, qb1⟩ := W.at_ _ mb
          obtain ⟨rc, vc1, qc1⟩ := W.at_ _ mc
          have wk2 := W.keys
          rw [eb2] at wk2
          refine ⟨_, rfl, r, R2.dx, _, rfl, SF11.run.run.at_.ob, rF_no (by decide +kernel) (by decide +kernel) (by decide +kernel) (by decide +kernel), r, R2, .str "b", ["b", "c"], true, rfl, SF11.run.run.at_, wk2, .inl ⟨_, rfl, by decide +kernel⟩, fun z => (nomatch z), fun _ => ⟨"b", .ref rb, rfl, vb1, ?_⟩⟩
          refine ⟨_, rfl, r, R2.dx, _, rfl, SF11.run.run.at_.ob, rF_no (by decide +kernel) (by decide +kernel) (by decide +kernel) (by decide +kernel), r, R2, .str "c", ["b", "c"], true, rfl, SF11.run.run.at_, wk2, .inl ⟨_, rfl, by decide +kernel⟩, fun z => (nomatch z), fun _ => ⟨"c", .ref rc, rfl, vc1, ?_⟩⟩
          refine ⟨two_sz, fun l1 hl1 => ?_⟩
          have u12 := same_new (o := .lst [.ref rb, .ref rc]) hl1
          have el1 : (upd G11 l1 (.lst [.ref rb, .ref rc])) l1 = some (.lst [.ref rb, .ref rc]) := upd_same
          generalize upd G11 l1 (.lst [.ref rb, .ref rc]) = G12 at *
          have TF12 := TF11.same u12
          have SF12 := SF11.same u12
          obtain ⟨st, al, sl, pl2, axs, sxs, pxs, y1, y2, _⟩ := SF12.st.ex
          obtain ⟨bx, hxx, rx, zx, rk, w1, w2, w3, w4, w5, w6⟩ := y2.ex
          obtain ⟨lb, vb2, qb2⟩ := w5.at_ _ mb
          obtain ⟨lc, vc2, qc2⟩ := w5.at_ _ mc
          have dgb : DGet G12 rx (.str "b") (some (.ref lb)) := vb2 ▸ DGet.k (k := Sum.inr ("b" : Str)) w4
          have dgc : DGet G12 rx (.str "c") (some (.ref lc)) := vc2 ▸ DGet.k (k := Sum.inr ("c" : Str)) w4
          refine ⟨_, rfl, s2, _, 0, _, rfl, rfl, y1, atI_nat (j := 0) rfl, st, _, 2, _, rfl, rfl, w1, atI_nat (j := 2) rfl, rx, .ref lb, rfl, dgb, ?_⟩
          refine ⟨_, rfl, s2, _, 0, _, rfl, rfl, y1, atI_nat (j := 0) rfl, st, _, 2, _, rfl, rfl, w1, atI_nat (j := 2) rfl, rx, .ref lc, rfl, dgc, ?_⟩
          refine ⟨two_sz, fun l2 hl2 => ?_⟩
          have u13 := same_new (o := .lst [.ref lb, .ref lc]) hl2
          have el2 : (upd G12 l2 (.lst [.ref lb, .ref lc])) l2 = some (.lst [.ref lb, .ref lc]) := upd_same
          generalize upd G12 l2 (.lst [.ref lb, .ref lc]) = G13 at *
          have TF13 := TF12.same u13
          have so13 := so11.tk (TK.of (u12.trans u13))
          have b1 := seqT_same (u12.trans u13) qb1
          have c1' := seqT_same (u12.trans u13) qc1
          have b2 := seqT_same u13 qb2
          have c2' := seqT_same u13 qc2
          refine ⟨_, _, rfl, .lst (SqL.of (u13 _ _ el1)) (SqL.of el2) rfl (by show 2 ≤ 1000; decide) fun j x y q1 q2 => ?_, fun G14 s14 => ⟨_, rfl, ?_⟩⟩
          · match j, q1, q2 with
            | 0, q1, q2 => cases q1; cases q2; exact (belt_tw (so13.vals _ mb) (Nat.le_trans (so13.len _ mb) (by decide)) b1 b2).le (by decide)
            | 1, q1, q2 => cases q1; cases q2; exact (belt_tw (so13.vals _ mc) (Nat.le_trans (so13.len _ mc) (by decide)) c1' c2').le (by decide)
          refine iteF ?_
          refine ⟨_, _, _, _, _, _, _, _, _, rfl, TF13.same s14, SF12.same (u13.trans s14), ?_⟩
          omega
      · rintro σ H' ⟨q4, q9, q10, q11, sx, R', S1, anss, last, rfl, TF, SF, hs⟩
        have := sum_le SF.la rowN SF.le
        omega
    · rintro σ Hs ⟨q1, q2, q3, q4, q5, q6, q7, q8, q9, q10, q11, rfl, eHs, tHs⟩
      exact k _
end
end TW
namespace TW
open PySem PySem.Spec PyProof.Rows L2 LamX
section
variable {P : Program} {w : World} {K : PySem.W.Frag} {mg : Str → Option Value} {base : Heap} {C CS CH : Addr} {kw n : Nat}
theorem one_cell {z : Str} {c : Addr} : ∀ x a, ([(z, c)] : List (Str × Addr)).lookup x = some a → x = z ∧ a = c := fun x a h => by
  rw [List.lookup_cons] at h
  split at h
  · rename_i e
    exact ⟨eq_of_beq e, (Option.some.inj h).symm⟩
  · cases h
theorem lam_free : ∀ x, lamS.names.lookup x = some .free → x = "_law_rows" := fun x h => by
  have all : ∀ z ∈ lamS.names, z.2 = .free → z.1 = "_law_rows" := by decide +kernel
  exact all _ (PySem.mem_of_lookup h) rfl
/-- the works of a plan's shop do as their rows say -/
theorem wk_of {fP : Addr} {fdP : FuncData} (GP : ∀ B, (∀ b o, base.get? b = some o → B.get? b = some o) → FnOk P w K mg B (L2.CX P w) kw fP fdP ["_law_rows", "_law_hand"] (spPlay K C CS CH n)) (mP : mg "_law_play" = some (.ref fP)) (kP : PySem.W.keepIn K (.ref fP) = true) (bP : Binds K fdP ["_law_rows", "_law_hand"] []) (hn : n = 3) :
    ∀ (X : Cx) (σ : L2.St) (H : Hp) (L : List Addr) (B : Heap), X.prog = P → X.w = w → X.K = K → X.mg = mg → X.base = base → Known X σ H L B → ∀ (S0 : SS) (rowss : List (List Row)) (gF cF eF rF : Nat → Addr) (H0 : Hp), (∀ (i : Nat) (rows : List Row), rowss[i]? = some rows → S0.works[i]? = some (.ref (gF i)) ∧ WorkAt H (gF i) (cF i) (eF i) (rF i) ∧ gF i ∈ L ∧ cF i ∈ L ∧ eF i ∈ L ∧ RowsOk K H0 n S0.beltN rows) → WorksK P w K mg B C CS CH (kw + 1) n S0 rowss rF H0 := by
  intro X σ H L B e1 e2 e3 e4 e5 kb S0 rowss gF cF eF rF H0 h i rows hi
  subst e1 e2 e3 e4 e5
  obtain ⟨h1, h2, m1, m2, m3, h3⟩ := h i rows hi
  exact ⟨gF i, h1, work_play hi (cloAt_cell kb h2.fn h2.code h2.cell m1 m2 m3 one_cell (by rw [List.lookup_cons]; rfl) rfl rfl rfl (by decide +kernel) rfl lam_free rfl (fun _ _ _ => rfl)) (GP B kb.old) mP kP bP hn h3⟩
end
end TW
namespace TWHead
open PySem PySem.Spec PySem.W PySem.Calls PyProof.Rows L2 TW
theorem toFun {K : Frag} {x qual : PySem.Str} {st : Stmt} {kws : List (PySem.Str × V)} {f : Addr} {fd : FuncData} (F : FunD K x qual (defArgs st) (defBody st) (defScope st) [] kws f fd) : Fun K x qual st f fd := by
  obtain ⟨⟨oc, od, dV, kV, doc, pm, an, cdv, ct, osl, e, lk, hcd, hD, hK⟩, kp⟩ := F
  rcases hD with ⟨_, rfl⟩ | ⟨z, _⟩
  · exact ⟨⟨oc, od, kV, doc, pm, an, cdv, ct, osl, e, lk, hcd⟩, kp⟩
  · exact absurd rfl z
theorem fun_two {K : Frag} {qual f : PySem.Str} {st : Stmt} {fI : Addr} {fd : FuncData} (F : Fun K "__init__" qual st fI fd)
    (bp : ∀ (kV dc pm : Value) (an : Option Addr) (cd ct u v : Value), bindArgs (fnOf "__init__" qual (defArgs st) (defBody st) (defScope st) .none kV dc pm an cd ct) ⟨[u, v], []⟩ = pure [(("self" : PySem.Str), u), (f, v)])
    (bk : ∀ (kV dc pm : Value) (an : Option Addr) (cd ct u v : Value), bindArgs (fnOf "__init__" qual (defArgs st) (defBody st) (defScope st) .none kV dc pm an cd ct) ⟨[u], [(f, v)]⟩ = pure [(("self" : PySem.Str), u), (f, v)]) :
    (∀ (s : Shared) (u v : Value), BindsTo s fd ⟨[u, v], []⟩ [("self", u), (f, v)]) ∧ ∀ (s : Shared) (u v : Value), BindsTo s fd ⟨[u], [(f, v)]⟩ [("self", u), (f, v)] := by
  obtain ⟨oc, od, kV, doc, pm, an, cdv, ct, osl, rfl, lk, hcd⟩ := F.ex
  exact ⟨fun s u v => .of_eq (bp kV doc pm an cdv ct u v), fun s u v => .of_eq (bk kV doc pm an cdv ct u v)⟩
theorem binds_of {K : Frag} {x qual : PySem.Str} {st : Stmt} {f : Addr} {fd : FuncData} {y : PySem.Str} (F : Fun K x qual st f fd) (b : ∀ (kV dc pm : Value) (an : Option Addr) (cd ct u : Value), bindArgs (fnOf x qual (defArgs st) (defBody st) (defScope st) .none kV dc pm an cd ct) ⟨[u], []⟩ = pure [(y, u)]) :
    ∀ (s : Shared) (u : Value), BindsTo s fd ⟨[u], []⟩ [(y, u)] := by
  obtain ⟨oc, od, kV, doc, pm, an, cdv, ct, osl, rfl, lk, hcd⟩ := F.ex
  exact fun s u => .of_eq (b kV doc pm an cdv ct u)
/-- the law's def with its code object -/
theorem toFunC {K : Frag} {x qual : PySem.Str} {st : Stmt} {p : PySem.Str × Option PySem.Str} {fd : FuncData} (F : Fun K x qual st (He.fAd K p) fd) : FunC K x qual st (He.fAd K p) fd (He.codeOf K p) := by
  obtain ⟨oc, od, kV, doc, pm, an, cdv, ct, osl, rfl, lk, hcd⟩ := F.ex
  obtain ⟨c, rfl⟩ := He.codeIn_ref hcd
  have e := He.codeOf_eq lk (c := c) rfl
  rw [e]
  exact ⟨⟨oc, od, kV, doc, pm, an, ct, osl, rfl, lk, hcd⟩, F.kp⟩
theorem fnAt_K {K : Frag} {x qual : PySem.Str} {st : Stmt} {f : Addr} {fd : FuncData} {base : Heap} (F : Fun K x qual st f fd) (X : K.In base) : FnAt f base := by
  obtain ⟨oc, od, kV, doc, pm, an, cdv, ct, osl, rfl, lk, hcd⟩ := F.ex
  exact ⟨_, _, _, _, X _ _ lk⟩
theorem both {A : Type} {a b : A} {x0 x1 : Addr} (ne : x0 ≠ x1) : ∃ S : Addr → Option A, S x0 = some a ∧ S x1 = some b ∧ ∀ f y, S f = some y → (f = x0 ∧ y = a) ∨ (f = x1 ∧ y = b) := by
  refine ⟨fun f => if f = x0 then some a else if f = x1 then some b else none, if_pos rfl, (if_neg (Ne.symm ne)).trans (if_pos rfl), fun f y h => ?_⟩
  by_cases h0 : f = x0
  · exact .inl ⟨h0, (Option.some.inj ((if_pos h0).symm.trans h)).symm⟩
  replace h := (if_neg h0).symm.trans h
  by_cases h1 : f = x1
  · exact .inr ⟨h1, (Option.some.inj ((if_pos h1).symm.trans h)).symm⟩
  replace h := (if_neg h1).symm.trans h
  cases h
theorem cx_of {P : Program} {w : World} {K : Frag} {mg : PySem.Str → Option Value} {base : Heap} {k : Nat} {f : Addr} {fd : FuncData} {ps : List PySem.Str} {sp : Sp} (F : FnOk P w K mg base CX0 k f fd ps sp) : FnOk P w K mg base (fun _ _ _ _ _ _ => False) k f fd ps sp := F
theorem kb_all {K : Frag} {t0 f : Addr} {fd : FuncData} (F : FunSI K t0 f fd) : KBn K fd psSI 2 ["cells", "locks", "belts", "longest", "most"] (fun us ws => us ++ ws) (fun vs zs => vs ++ zs) := by
  obtain ⟨mv, h⟩ := F.kbinds0 (ps := psSI) 2 ["cells", "locks", "belts", "longest", "most"] [] (fun us mv ws => us ++ ws) (by unfold shopKw; exact List.cons_ne_nil _ _) (fun q h => (nomatch h)) (fun a b c => a.append c)
    fun D doc pm an cdv ct us mv ws h1 h2 h3 => match us, mv, ws, h1, h2, h3 with
      | [_, _], [], [_, _, _, _, _], _, _, _ => rfl
  exact h
theorem at_end (w : World) (mg : PySem.Str → Option Value) (fa' : Addr) (h : Heap) (K : Frag) (KX : K.In h) (c : He.SaysX fa fn ts tf ex w h K) (G : h.Ns mainGlobals mg) (hmg : mg "law" = some (.ref fa')) :
    LamX.LawAtS PySem.Challenge.rw_turnways_k08_belts w K CX0 21 63 "_law_script" mg fa' h := by
  have cd := c.t.d
  have g_is_whole : mg "is_whole" = some (.ref (He.ga K "is_whole")) := He.glo_ok KX G (cd.fact 20 (f := .glo "is_whole") rfl)
  have g_is_word : mg "is_word" = some (.ref (He.ga K "is_word")) := He.glo_ok KX G (cd.fact 21 (f := .glo "is_word") rfl)
  have g_is_value : mg "is_value" = some (.ref (He.ga K "is_value")) := He.glo_ok KX G (cd.fact 22 (f := .glo "is_value") rfl)
  have g_same : mg "same" = some (.ref (He.ga K "same")) := He.glo_ok KX G (cd.fact 23 (f := .glo "same") rfl)
  have g_check_value : mg "check_value" = some (.ref (He.ga K "check_value")) := He.glo_ok KX G (cd.fact 24 (f := .glo "check_value") rfl)
  have g_check_thing : mg "check_thing" = some (.ref (He.ga K "check_thing")) := He.glo_ok KX G (cd.fact 25 (f := .glo "check_thing") rfl)
  have g_check_going : mg "check_going" = some (.ref (He.ga K "check_going")) := He.glo_ok KX G (cd.fact 26 (f := .glo "check_going") rfl)
  have g_check_call : mg "check_call" = some (.ref (He.ga K "check_call")) := He.glo_ok KX G (cd.fact 27 (f := .glo "check_call") rfl)
  have g_halt : mg "halt" = some (.ref (He.ga K "halt")) := He.glo_ok KX G (cd.fact 28 (f := .glo "halt") rfl)
  have g_ask : mg "ask" = some (.ref (He.ga K "ask")) := He.glo_ok KX G (cd.fact 29 (f := .glo "ask") rfl)
  have g_Hand : mg "Hand" = some (.ref (He.ga K "Hand")) := He.glo_ok KX G (cd.fact 30 (f := .glo "Hand") rfl)
  have g_Place : mg "Place" = some (.ref (He.ga K "Place")) := He.glo_ok KX G (cd.fact 31 (f := .glo "Place") rfl)
  have g_returned : mg "returned" = some (.ref (He.ga K "returned")) := He.glo_ok KX G (cd.fact 32 (f := .glo "returned") rfl)
  have g_come : mg "come" = some (.ref (He.ga K "come")) := He.glo_ok KX G (cd.fact 33 (f := .glo "come") rfl)
  have g_Things : mg "Things" = some (.ref (He.ga K "Things")) := He.glo_ok KX G (cd.fact 34 (f := .glo "Things") rfl)
  have g_first_things : mg "first_things" = some (.ref (He.ga K "first_things")) := He.glo_ok KX G (cd.fact 35 (f := .glo "first_things") rfl)
  have g_things_again : mg "things_again" = some (.ref (He.ga K "things_again")) := He.glo_ok KX G (cd.fact 36 (f := .glo "things_again") rfl)
  have g_has_room : mg "has_room" = some (.ref (He.ga K "has_room")) := He.glo_ok KX G (cd.fact 37 (f := .glo "has_room") rfl)
  have g_need_not_wait : mg "need_not_wait" = some (.ref (He.ga K "need_not_wait")) := He.glo_ok KX G (cd.fact 38 (f := .glo "need_not_wait") rfl)
  have g_do_lay : mg "do_lay" = some (.ref (He.ga K "do_lay")) := He.glo_ok KX G (cd.fact 39 (f := .glo "do_lay") rfl)
  have g_do_fetch : mg "do_fetch" = some (.ref (He.ga K "do_fetch")) := He.glo_ok KX G (cd.fact 40 (f := .glo "do_fetch") rfl)
  have g_do_step : mg "do_step" = some (.ref (He.ga K "do_step")) := He.glo_ok KX G (cd.fact 41 (f := .glo "do_step") rfl)
  have g_place_of : mg "place_of" = some (.ref (He.ga K "place_of")) := He.glo_ok KX G (cd.fact 42 (f := .glo "place_of") rfl)
  have g_can_go : mg "can_go" = some (.ref (He.ga K "can_go")) := He.glo_ok KX G (cd.fact 43 (f := .glo "can_go") rfl)
  have g_in_pairs : mg "in_pairs" = some (.ref (He.ga K "in_pairs")) := He.glo_ok KX G (cd.fact 44 (f := .glo "in_pairs") rfl)
  have g_Run : mg "Run" = some (.ref (He.ga K "Run")) := He.glo_ok KX G (cd.fact 45 (f := .glo "Run") rfl)
  have g_check_works : mg "check_works" = some (.ref (He.ga K "check_works")) := He.glo_ok KX G (cd.fact 46 (f := .glo "check_works") rfl)
  have g_check_names : mg "check_names" = some (.ref (He.ga K "check_names")) := He.glo_ok KX G (cd.fact 47 (f := .glo "check_names") rfl)
  have g_check_size : mg "check_size" = some (.ref (He.ga K "check_size")) := He.glo_ok KX G (cd.fact 48 (f := .glo "check_size") rfl)
  have g_check_limit : mg "check_limit" = some (.ref (He.ga K "check_limit")) := He.glo_ok KX G (cd.fact 49 (f := .glo "check_limit") rfl)
  have g_copied : mg "copied" = some (.ref (He.ga K "copied")) := He.glo_ok KX G (cd.fact 50 (f := .glo "copied") rfl)
  have g_Shop : mg "Shop" = some (.ref (He.ga K "Shop")) := He.glo_ok KX G (cd.fact 51 (f := .glo "Shop") rfl)
  have g__law_source : mg "_law_source" = some (.ref (He.ga K "_law_source")) := He.glo_ok KX G (cd.fact 52 (f := .glo "_law_source") rfl)
  have g__law_draw : mg "_law_draw" = some (.ref (He.ga K "_law_draw")) := He.glo_ok KX G (cd.fact 53 (f := .glo "_law_draw") rfl)
  have g__law_pick : mg "_law_pick" = some (.ref (He.ga K "_law_pick")) := He.glo_ok KX G (cd.fact 54 (f := .glo "_law_pick") rfl)
  have g__law_same : mg "_law_same" = some (.ref (He.ga K "_law_same")) := He.glo_ok KX G (cd.fact 55 (f := .glo "_law_same") rfl)
  have g__law_told : mg "_law_told" = some (.ref (He.ga K "_law_told")) := He.glo_ok KX G (cd.fact 56 (f := .glo "_law_told") rfl)
  have g__law_wish : mg "_law_wish" = some (.ref (He.ga K "_law_wish")) := He.glo_ok KX G (cd.fact 57 (f := .glo "_law_wish") rfl)
  have g__law_ask : mg "_law_ask" = some (.ref (He.ga K "_law_ask")) := He.glo_ok KX G (cd.fact 58 (f := .glo "_law_ask") rfl)
  have g__law_play : mg "_law_play" = some (.ref (He.ga K "_law_play")) := He.glo_ok KX G (cd.fact 59 (f := .glo "_law_play") rfl)
  have g__law_stand : mg "_law_stand" = some (.ref (He.ga K "_law_stand")) := He.glo_ok KX G (cd.fact 60 (f := .glo "_law_stand") rfl)
  have g__law_lets : mg "_law_lets" = some (.ref (He.ga K "_law_lets")) := He.glo_ok KX G (cd.fact 61 (f := .glo "_law_lets") rfl)
  have g__law_changed : mg "_law_changed" = some (.ref (He.ga K "_law_changed")) := He.glo_ok KX G (cd.fact 62 (f := .glo "_law_changed") rfl)
  have g__law_do : mg "_law_do" = some (.ref (He.ga K "_law_do")) := He.glo_ok KX G (cd.fact 63 (f := .glo "_law_do") rfl)
  have g__law_begun : mg "_law_begun" = some (.ref (He.ga K "_law_begun")) := He.glo_ok KX G (cd.fact 64 (f := .glo "_law_begun") rfl)
  have g__law_can : mg "_law_can" = some (.ref (He.ga K "_law_can")) := He.glo_ok KX G (cd.fact 65 (f := .glo "_law_can") rfl)
  have g__law_go : mg "_law_go" = some (.ref (He.ga K "_law_go")) := He.glo_ok KX G (cd.fact 66 (f := .glo "_law_go") rfl)
  have g__law_outcome : mg "_law_outcome" = some (.ref (He.ga K "_law_outcome")) := He.glo_ok KX G (cd.fact 67 (f := .glo "_law_outcome") rfl)
  have g__law_shop : mg "_law_shop" = some (.ref (He.ga K "_law_shop")) := He.glo_ok KX G (cd.fact 68 (f := .glo "_law_shop") rfl)
  have g__law_worked : mg "_law_worked" = some (.ref (He.ga K "_law_worked")) := He.glo_ok KX G (cd.fact 69 (f := .glo "_law_worked") rfl)
  have g__law_value : mg "_law_value" = some (.ref (He.ga K "_law_value")) := He.glo_ok KX G (cd.fact 70 (f := .glo "_law_value") rfl)
  have g__law_work : mg "_law_work" = some (.ref (He.ga K "_law_work")) := He.glo_ok KX G (cd.fact 71 (f := .glo "_law_work") rfl)
  have g_law : mg "law" = some (.ref (He.ga K "law")) := He.glo_ok KX G (cd.fact 72 (f := .glo "law") rfl)
  have g_BadWorks : mg "BadWorks" = some (.ref (He.ga K "BadWorks")) := He.glo_ok KX G (cd.fact 73 (f := .glo "BadWorks") rfl)
  have g_BadValue : mg "BadValue" = some (.ref (He.ga K "BadValue")) := He.glo_ok KX G (cd.fact 74 (f := .glo "BadValue") rfl)
  have g_BadSize : mg "BadSize" = some (.ref (He.ga K "BadSize")) := He.glo_ok KX G (cd.fact 75 (f := .glo "BadSize") rfl)
  have g_BadLimit : mg "BadLimit" = some (.ref (He.ga K "BadLimit")) := He.glo_ok KX G (cd.fact 76 (f := .glo "BadLimit") rfl)
  have g_NoThing : mg "NoThing" = some (.ref (He.ga K "NoThing")) := He.glo_ok KX G (cd.fact 77 (f := .glo "NoThing") rfl)
  have g_NoWork : mg "NoWork" = some (.ref (He.ga K "NoWork")) := He.glo_ok KX G (cd.fact 78 (f := .glo "NoWork") rfl)
  have g_CanNot : mg "CanNot" = some (.ref (He.ga K "CanNot")) := He.glo_ok KX G (cd.fact 79 (f := .glo "CanNot") rfl)
  have g_Held : mg "Held" = some (.ref (He.ga K "Held")) := He.glo_ok KX G (cd.fact 80 (f := .glo "Held") rfl)
  have g_STEPS : mg "STEPS" = some (.ref (He.ga K "STEPS")) := He.glo_ok KX G (cd.fact 81 (f := .glo "STEPS") rfl)
  have e := hmg.symm.trans g_law
  cases e
  have B : Blt mg := ⟨He.free_ok KX G (cd.fact 0 (f := .free "len") rfl), He.free_ok KX G (cd.fact 1 (f := .free "int") rfl), He.free_ok KX G (cd.fact 2 (f := .free "bool") rfl), He.free_ok KX G (cd.fact 3 (f := .free "str") rfl), He.free_ok KX G (cd.fact 4 (f := .free "list") rfl), He.free_ok KX G (cd.fact 5 (f := .free "tuple") rfl), He.free_ok KX G (cd.fact 6 (f := .free "dict") rfl), He.free_ok KX G (cd.fact 7 (f := .free "isinstance") rfl), He.free_ok KX G (cd.fact 8 (f := .free "all") rfl), He.free_ok KX G (cd.fact 9 (f := .free "zip") rfl), He.free_ok KX G (cd.fact 10 (f := .free "range") rfl), He.free_ok KX G (cd.fact 11 (f := .free "sorted") rfl), He.free_ok KX G (cd.fact 12 (f := .free "enumerate") rfl)⟩
  have mSet : mg "set" = none := He.free_ok KX G (cd.fact 13 (f := .free "set") rfl)
  have mMin : mg "min" = none := He.free_ok KX G (cd.fact 14 (f := .free "min") rfl)
  have mAny : mg "any" = none := He.free_ok KX G (cd.fact 15 (f := .free "any") rfl)
  obtain ⟨u_LONGEST_WORD, i_LONGEST_WORD⟩ := He.int_ok KX G (cd.fact 16 (f := .int "LONGEST_WORD" 8) rfl)
  obtain ⟨u_MOST_WORKS, i_MOST_WORKS⟩ := He.int_ok KX G (cd.fact 17 (f := .int "MOST_WORKS" 4) rfl)
  obtain ⟨u_TOP_LONGEST, i_TOP_LONGEST⟩ := He.int_ok KX G (cd.fact 18 (f := .int "TOP_LONGEST" 40) rfl)
  obtain ⟨u_TOP_MOST, i_TOP_MOST⟩ := He.int_ok KX G (cd.fact 19 (f := .int "TOP_MOST" 2000) rfl)
  obtain ⟨d_whole, D_whole⟩ := cd.def_ 0 rfl
  have F_whole : Fun K "is_whole" "is_whole" (top 15) (He.fAd K ("is_whole", none)) d_whole := toFun (st := (top 15)) D_whole
  have b_whole : L2.Binds K d_whole ["given"] [] := F_whole.binds fun _ _ _ _ _ _ us hl => match us, hl with | [_], _ => rfl
  obtain ⟨d_word, D_word⟩ := cd.def_ 1 rfl
  have F_word : Fun K "is_word" "is_word" (top 16) (He.fAd K ("is_word", none)) d_word := toFun (st := (top 16)) D_word
  have b_word : L2.Binds K d_word ["given"] [] := F_word.binds fun _ _ _ _ _ _ us hl => match us, hl with | [_], _ => rfl
  obtain ⟨d_isv, D_isv⟩ := cd.def_ 2 rfl
  have F_isv : Fun K "is_value" "is_value" (top 17) (He.fAd K ("is_value", none)) d_isv := toFun (st := (top 17)) D_isv
  have b_isv : L2.Binds K d_isv ["given"] [] := F_isv.binds fun _ _ _ _ _ _ us hl => match us, hl with | [_], _ => rfl
  obtain ⟨d_same, D_same⟩ := cd.def_ 3 rfl
  have F_same : Fun K "same" "same" (top 18) (He.fAd K ("same", none)) d_same := toFun (st := (top 18)) D_same
  have b_same : L2.Binds K d_same ["one", "other"] [] := F_same.binds fun _ _ _ _ _ _ us hl => match us, hl with | [_, _], _ => rfl
  obtain ⟨d_ckv, D_ckv⟩ := cd.def_ 4 rfl
  have F_ckv : Fun K "check_value" "check_value" (top 19) (He.fAd K ("check_value", none)) d_ckv := toFun (st := (top 19)) D_ckv
  have b_ckv : L2.Binds K d_ckv ["given"] [] := F_ckv.binds fun _ _ _ _ _ _ us hl => match us, hl with | [_], _ => rfl
  obtain ⟨d_ckt, D_ckt⟩ := cd.def_ 5 rfl
  have F_ckt : Fun K "check_thing" "check_thing" (top 20) (He.fAd K ("check_thing", none)) d_ckt := toFun (st := (top 20)) D_ckt
  have b_ckt : L2.Binds K d_ckt ["names", "name"] [] := F_ckt.binds fun _ _ _ _ _ _ us hl => match us, hl with | [_, _], _ => rfl
  obtain ⟨d_going, D_going⟩ := cd.def_ 6 rfl
  have F_going : Fun K "check_going" "check_going" (top 22) (He.fAd K ("check_going", none)) d_going := toFun (st := (top 22)) D_going
  have b_going : L2.Binds K d_going ["hand"] [] := F_going.binds fun _ _ _ _ _ _ us hl => match us, hl with | [_], _ => rfl
  obtain ⟨d_ccall, D_ccall⟩ := cd.def_ 7 rfl
  have F_ccall : Fun K "check_call" "check_call" (top 23) (He.fAd K ("check_call", none)) d_ccall := toFun (st := (top 23)) D_ccall
  obtain ⟨d_halt, D_halt⟩ := cd.def_ 8 rfl
  have F_halt : Fun K "halt" "halt" (top 24) (He.fAd K ("halt", none)) d_halt := toFun (st := (top 24)) D_halt
  have b_halt : L2.Binds K d_halt ["hand"] [] := F_halt.binds fun _ _ _ _ _ _ us hl => match us, hl with | [_], _ => rfl
  obtain ⟨d_ask, D_ask⟩ := cd.def_ 9 rfl
  have F_ask : Fun K "ask" "ask" (top 25) (He.fAd K ("ask", none)) d_ask := toFun (st := (top 25)) D_ask
  have b_ask : L2.Binds K d_ask ["hand", "wish"] [] := F_ask.binds fun _ _ _ _ _ _ us hl => match us, hl with | [_, _], _ => rfl
  obtain ⟨d_HI, D_HI⟩ := cd.def_ 10 rfl
  have F_HI : Fun K "__init__" "Hand.__init__" (inClass (top 26) 0) (He.fAd K ("Hand", some "__init__")) d_HI := toFun (st := (inClass (top 26) 0)) D_HI
  have b_HI : L2.Binds K d_HI ["self", "shop", "me", "answers"] [] := F_HI.binds fun _ _ _ _ _ _ us hl => match us, hl with | [_, _, _, _], _ => rfl
  obtain ⟨d_lay, D_lay⟩ := cd.def_ 11 rfl
  have F_lay : Fun K "lay" "Hand.lay" (inClass (top 26) 9) (He.fAd K ("Hand", some "lay")) d_lay := toFun (st := (inClass (top 26) 9)) D_lay
  have b_lay : L2.Binds K d_lay ["self", "belt", "value"] [] := F_lay.binds fun _ _ _ _ _ _ us hl => match us, hl with | [_, _, _], _ => rfl
  obtain ⟨d_fetch, D_fetch⟩ := cd.def_ 12 rfl
  have F_fetch : Fun K "fetch" "Hand.fetch" (inClass (top 26) 10) (He.fAd K ("Hand", some "fetch")) d_fetch := toFun (st := (inClass (top 26) 10)) D_fetch
  have b_fetch : L2.Binds K d_fetch ["self", "belt"] [] := F_fetch.binds fun _ _ _ _ _ _ us hl => match us, hl with | [_, _], _ => rfl
  obtain ⟨d_PI, D_PI⟩ := cd.def_ 13 rfl
  have F_PI : Fun K "__init__" "Place.__init__" (inClass (top 28) 0) (He.fAd K ("Place", some "__init__")) d_PI := toFun (st := (inClass (top 28) 0)) D_PI
  have b_PI : L2.Binds K d_PI ["self", "answers", "pending", "end", "words"] [] := F_PI.binds fun _ _ _ _ _ _ us hl => match us, hl with | [_, _, _, _, _], _ => rfl
  obtain ⟨d_ret, D_ret⟩ := cd.def_ 14 rfl
  have F_ret : Fun K "returned" "returned" (top 29) (He.fAd K ("returned", none)) d_ret := toFun (st := (top 29)) D_ret
  have b_ret : L2.Binds K d_ret ["work", "hand"] [] := F_ret.binds fun _ _ _ _ _ _ us hl => match us, hl with | [_, _], _ => rfl
  obtain ⟨d_come, D_come⟩ := cd.def_ 15 rfl
  have F_come : Fun K "come" "come" (top 30) (He.fAd K ("come", none)) d_come := toFun (st := (top 30)) D_come
  have b_come : L2.Binds K d_come ["shop", "k", "answers"] [] := F_come.binds fun _ _ _ _ _ _ us hl => match us, hl with | [_, _, _], _ => rfl
  obtain ⟨d_TI, D_TI⟩ := cd.def_ 16 rfl
  have F_TI : Fun K "__init__" "Things.__init__" (inClass (top 32) 0) (He.fAd K ("Things", some "__init__")) d_TI := toFun (st := (inClass (top 32) 0)) D_TI
  have b_TI : L2.Binds K d_TI ["self", "cells", "holders", "rows", "sizes"] [] := F_TI.binds fun _ _ _ _ _ _ us hl => match us, hl with | [_, _, _, _, _], _ => rfl
  obtain ⟨d_first, D_first⟩ := cd.def_ 17 rfl
  have F_first : Fun K "first_things" "first_things" (top 33) (He.fAd K ("first_things", none)) d_first := toFun (st := (top 33)) D_first
  have b_first : L2.Binds K d_first ["shop"] [] := F_first.binds fun _ _ _ _ _ _ us hl => match us, hl with | [_], _ => rfl
  obtain ⟨d_again, D_again⟩ := cd.def_ 18 rfl
  have F_again : Fun K "things_again" "things_again" (top 34) (He.fAd K ("things_again", none)) d_again := toFun (st := (top 34)) D_again
  have b_again : L2.Binds K d_again ["things"] [] := F_again.binds fun _ _ _ _ _ _ us hl => match us, hl with | [_], _ => rfl
  obtain ⟨d_room, D_room⟩ := cd.def_ 19 rfl
  have F_room : Fun K "has_room" "has_room" (top 35) (He.fAd K ("has_room", none)) d_room := toFun (st := (top 35)) D_room
  have b_room : L2.Binds K d_room ["things", "belt"] [] := F_room.binds fun _ _ _ _ _ _ us hl => match us, hl with | [_, _], _ => rfl
  obtain ⟨d_need, D_need⟩ := cd.def_ 20 rfl
  have F_need : Fun K "need_not_wait" "need_not_wait" (top 36) (He.fAd K ("need_not_wait", none)) d_need := toFun (st := (top 36)) D_need
  have b_need : L2.Binds K d_need ["things", "wish"] [] := F_need.binds fun _ _ _ _ _ _ us hl => match us, hl with | [_, _], _ => rfl
  obtain ⟨d_dlay, D_dlay⟩ := cd.def_ 21 rfl
  have F_dlay : Fun K "do_lay" "do_lay" (top 45) (He.fAd K ("do_lay", none)) d_dlay := toFun (st := (top 45)) D_dlay
  have b_dlay : L2.Binds K d_dlay ["things", "k", "wish"] [] := F_dlay.binds fun _ _ _ _ _ _ us hl => match us, hl with | [_, _, _], _ => rfl
  obtain ⟨d_dfetch, D_dfetch⟩ := cd.def_ 22 rfl
  have F_dfetch : Fun K "do_fetch" "do_fetch" (top 46) (He.fAd K ("do_fetch", none)) d_dfetch := toFun (st := (top 46)) D_dfetch
  have b_dfetch : L2.Binds K d_dfetch ["things", "k", "wish"] [] := F_dfetch.binds fun _ _ _ _ _ _ us hl => match us, hl with | [_, _, _], _ => rfl
  obtain ⟨d_dstep, D_dstep⟩ := cd.def_ 23 rfl
  have F_dstep : Fun K "do_step" "do_step" (top 48) (He.fAd K ("do_step", none)) d_dstep := toFun (st := (top 48)) D_dstep
  have b_dstep : L2.Binds K d_dstep ["things", "k", "wish"] [] := F_dstep.binds fun _ _ _ _ _ _ us hl => match us, hl with | [_, _, _], _ => rfl
  obtain ⟨d_place, D_place⟩ := cd.def_ 24 rfl
  have F_place : Fun K "place_of" "place_of" (top 50) (He.fAd K ("place_of", none)) d_place := toFun (st := (top 50)) D_place
  have b_place : L2.Binds K d_place ["run", "k"] [] := F_place.binds fun _ _ _ _ _ _ us hl => match us, hl with | [_, _], _ => rfl
  obtain ⟨d_cango, D_cango⟩ := cd.def_ 25 rfl
  have F_cango : Fun K "can_go" "can_go" (top 51) (He.fAd K ("can_go", none)) d_cango := toFun (st := (top 51)) D_cango
  have b_cango : L2.Binds K d_cango ["run", "place"] [] := F_cango.binds fun _ _ _ _ _ _ us hl => match us, hl with | [_, _], _ => rfl
  obtain ⟨d_pairs, D_pairs⟩ := cd.def_ 26 rfl
  have F_pairs : Fun K "in_pairs" "in_pairs" (top 52) (He.fAd K ("in_pairs", none)) d_pairs := toFun (st := (top 52)) D_pairs
  have b_pairs : L2.Binds K d_pairs ["table"] [] := F_pairs.binds fun _ _ _ _ _ _ us hl => match us, hl with | [_], _ => rfl
  obtain ⟨d_RI, D_RI⟩ := cd.def_ 27 rfl
  have F_RI : Fun K "__init__" "Run.__init__" (inClass (top 53) 0) (He.fAd K ("Run", some "__init__")) d_RI := toFun (st := (inClass (top 53) 0)) D_RI
  have b_RI : L2.Binds K d_RI ["self", "shop"] [] := F_RI.binds fun _ _ _ _ _ _ us hl => match us, hl with | [_, _], _ => rfl
  obtain ⟨d_can, D_can⟩ := cd.def_ 28 rfl
  have F_can : Fun K "can" "Run.can" (inClass (top 53) 2) (He.fAd K ("Run", some "can")) d_can := toFun (st := (inClass (top 53) 2)) D_can
  have b_can : L2.Binds K d_can ["self"] [] := F_can.binds fun _ _ _ _ _ _ us hl => match us, hl with | [_], _ => rfl
  obtain ⟨d_go, D_go⟩ := cd.def_ 29 rfl
  have F_go : Fun K "go" "Run.go" (inClass (top 53) 3) (He.fAd K ("Run", some "go")) d_go := toFun (st := (inClass (top 53) 3)) D_go
  have b_go : L2.Binds K d_go ["self", "k"] [] := F_go.binds fun _ _ _ _ _ _ us hl => match us, hl with | [_, _], _ => rfl
  obtain ⟨d_ends, D_ends⟩ := cd.def_ 30 rfl
  have F_ends : Fun K "ends" "Run.ends" (inClass (top 53) 6) (He.fAd K ("Run", some "ends")) d_ends := toFun (st := (inClass (top 53) 6)) D_ends
  have b_ends : L2.Binds K d_ends ["self"] [] := F_ends.binds fun _ _ _ _ _ _ us hl => match us, hl with | [_], _ => rfl
  obtain ⟨d_belt, D_belt⟩ := cd.def_ 31 rfl
  have F_belt : Fun K "belt" "Run.belt" (inClass (top 53) 9) (He.fAd K ("Run", some "belt")) d_belt := toFun (st := (inClass (top 53) 9)) D_belt
  have b_belt : L2.Binds K d_belt ["self", "name"] [] := F_belt.binds fun _ _ _ _ _ _ us hl => match us, hl with | [_, _], _ => rfl
  obtain ⟨d_outc, D_outc⟩ := cd.def_ 32 rfl
  have F_outc : Fun K "outcome" "Run.outcome" (inClass (top 53) 11) (He.fAd K ("Run", some "outcome")) d_outc := toFun (st := (inClass (top 53) 11)) D_outc
  have b_outc : L2.Binds K d_outc ["self"] [] := F_outc.binds fun _ _ _ _ _ _ us hl => match us, hl with | [_], _ => rfl
  obtain ⟨d_over, D_over⟩ := cd.def_ 33 rfl
  have F_over : Fun K "is_over" "Run.is_over" (inClass (top 53) 12) (He.fAd K ("Run", some "is_over")) d_over := toFun (st := (inClass (top 53) 12)) D_over
  have b_over : L2.Binds K d_over ["self"] [] := F_over.binds fun _ _ _ _ _ _ us hl => match us, hl with | [_], _ => rfl
  obtain ⟨d_stands, D_stands⟩ := cd.def_ 34 rfl
  have F_stands : Fun K "stands" "Run.stands" (inClass (top 53) 13) (He.fAd K ("Run", some "stands")) d_stands := toFun (st := (inClass (top 53) 13)) D_stands
  have b_stands : L2.Binds K d_stands ["self"] [] := F_stands.binds fun _ _ _ _ _ _ us hl => match us, hl with | [_], _ => rfl
  obtain ⟨d_ckw, D_ckw⟩ := cd.def_ 35 rfl
  have F_ckw : Fun K "check_works" "check_works" (top 58) (He.fAd K ("check_works", none)) d_ckw := toFun (st := (top 58)) D_ckw
  have b_ckw : L2.Binds K d_ckw ["works"] [] := F_ckw.binds fun _ _ _ _ _ _ us hl => match us, hl with | [_], _ => rfl
  obtain ⟨d_ckn, D_ckn⟩ := cd.def_ 36 rfl
  have F_ckn : Fun K "check_names" "check_names" (top 59) (He.fAd K ("check_names", none)) d_ckn := toFun (st := (top 59)) D_ckn
  have b_ckn : L2.Binds K d_ckn ["names"] [] := F_ckn.binds fun _ _ _ _ _ _ us hl => match us, hl with | [_], _ => rfl
  obtain ⟨d_cks, D_cks⟩ := cd.def_ 37 rfl
  have F_cks : Fun K "check_size" "check_size" (top 60) (He.fAd K ("check_size", none)) d_cks := toFun (st := (top 60)) D_cks
  have b_cks : L2.Binds K d_cks ["size"] [] := F_cks.binds fun _ _ _ _ _ _ us hl => match us, hl with | [_], _ => rfl
  obtain ⟨d_ckl, D_ckl⟩ := cd.def_ 38 rfl
  have F_ckl : Fun K "check_limit" "check_limit" (top 61) (He.fAd K ("check_limit", none)) d_ckl := toFun (st := (top 61)) D_ckl
  have b_ckl : L2.Binds K d_ckl ["limit", "top"] [] := F_ckl.binds fun _ _ _ _ _ _ us hl => match us, hl with | [_, _], _ => rfl
  obtain ⟨d_cop, D_cop⟩ := cd.def_ 39 rfl
  have F_cop : Fun K "copied" "copied" (top 62) (He.fAd K ("copied", none)) d_cop := toFun (st := (top 62)) D_cop
  have b_cop : L2.Binds K d_cop ["table"] [] := F_cop.binds fun _ _ _ _ _ _ us hl => match us, hl with | [_], _ => rfl
  obtain ⟨d_SI, D_SI⟩ := cd.def_ 40 rfl
  have F_SI : Fun K "__init__" "Shop.__init__" (inClass (top 63) 0) (He.fAd K ("Shop", some "__init__")) d_SI := toFun (st := (inClass (top 63) 0)) D_SI
  obtain ⟨d_lsource, D_lsource⟩ := cd.def_ 41 rfl
  have F_lsource : Fun K "_law_source" "_law_source" (top 65) (He.fAd K ("_law_source", none)) d_lsource := toFun (st := (top 65)) D_lsource
  have b_lsource : L2.Binds K d_lsource ["_law_script", "_law_at"] [] := F_lsource.binds fun _ _ _ _ _ _ us hl => match us, hl with | [_, _], _ => rfl
  obtain ⟨d_ldraw, D_ldraw⟩ := cd.def_ 42 rfl
  have F_ldraw : Fun K "_law_draw" "_law_draw" (top 66) (He.fAd K ("_law_draw", none)) d_ldraw := toFun (st := (top 66)) D_ldraw
  have b_ldraw : L2.Binds K d_ldraw ["_law_draws", "_law_many"] [] := F_ldraw.binds fun _ _ _ _ _ _ us hl => match us, hl with | [_, _], _ => rfl
  obtain ⟨d_lpick, D_lpick⟩ := cd.def_ 43 rfl
  have F_lpick : Fun K "_law_pick" "_law_pick" (top 67) (He.fAd K ("_law_pick", none)) d_lpick := toFun (st := (top 67)) D_lpick
  have b_lpick : L2.Binds K d_lpick ["_law_draws", "_law_xs"] [] := F_lpick.binds fun _ _ _ _ _ _ us hl => match us, hl with | [_, _], _ => rfl
  obtain ⟨d_lsame, D_lsame⟩ := cd.def_ 44 rfl
  have F_lsame : Fun K "_law_same" "_law_same" (top 68) (He.fAd K ("_law_same", none)) d_lsame := toFun (st := (top 68)) D_lsame
  have b_lsame : L2.Binds K d_lsame ["_law_found", "_law_due"] [] := F_lsame.binds fun _ _ _ _ _ _ us hl => match us, hl with | [_, _], _ => rfl
  obtain ⟨d_ltold, D_ltold⟩ := cd.def_ 45 rfl
  have F_ltold : Fun K "_law_told" "_law_told" (top 69) (He.fAd K ("_law_told", none)) d_ltold := toFun (st := (top 69)) D_ltold
  have b_ltold : L2.Binds K d_ltold ["_law_row", "_law_notes"] [] := F_ltold.binds fun _ _ _ _ _ _ us hl => match us, hl with | [_, _], _ => rfl
  obtain ⟨d_lwish, D_lwish⟩ := cd.def_ 46 rfl
  have F_lwish : Fun K "_law_wish" "_law_wish" (top 70) (He.fAd K ("_law_wish", none)) d_lwish := toFun (st := (top 70)) D_lwish
  have b_lwish : L2.Binds K d_lwish ["_law_row", "_law_notes"] [] := F_lwish.binds fun _ _ _ _ _ _ us hl => match us, hl with | [_, _], _ => rfl
  obtain ⟨d_lask, D_lask⟩ := cd.def_ 47 rfl
  have F_lask : Fun K "_law_ask" "_law_ask" (top 71) (He.fAd K ("_law_ask", none)) d_lask := toFun (st := (top 71)) D_lask
  have b_lask : L2.Binds K d_lask ["_law_hand", "_law_wish_here"] [] := F_lask.binds fun _ _ _ _ _ _ us hl => match us, hl with | [_, _], _ => rfl
  obtain ⟨d_lplay, D_lplay⟩ := cd.def_ 48 rfl
  have F_lplay : Fun K "_law_play" "_law_play" (top 72) (He.fAd K ("_law_play", none)) d_lplay := toFun (st := (top 72)) D_lplay
  have b_lplay : L2.Binds K d_lplay ["_law_rows", "_law_hand"] [] := F_lplay.binds fun _ _ _ _ _ _ us hl => match us, hl with | [_, _], _ => rfl
  obtain ⟨d_lstand, D_lstand⟩ := cd.def_ 49 rfl
  have F_lstand : Fun K "_law_stand" "_law_stand" (top 73) (He.fAd K ("_law_stand", none)) d_lstand := toFun (st := (top 73)) D_lstand
  have b_lstand : L2.Binds K d_lstand ["_law_rows", "_law_answers"] [] := F_lstand.binds fun _ _ _ _ _ _ us hl => match us, hl with | [_, _], _ => rfl
  obtain ⟨d_llets, D_llets⟩ := cd.def_ 50 rfl
  have F_llets : Fun K "_law_lets" "_law_lets" (top 74) (He.fAd K ("_law_lets", none)) d_llets := toFun (st := (top 74)) D_llets
  have b_llets : L2.Binds K d_llets ["_law_store", "_law_wish_here"] [] := F_llets.binds fun _ _ _ _ _ _ us hl => match us, hl with | [_, _], _ => rfl
  obtain ⟨d_lchanged, D_lchanged⟩ := cd.def_ 51 rfl
  have F_lchanged : Fun K "_law_changed" "_law_changed" (top 75) (He.fAd K ("_law_changed", none)) d_lchanged := toFun (st := (top 75)) D_lchanged
  have b_lchanged : L2.Binds K d_lchanged ["_law_things", "_law_name", "_law_value_here"] [] := F_lchanged.binds fun _ _ _ _ _ _ us hl => match us, hl with | [_, _, _], _ => rfl
  obtain ⟨d_ldo, D_ldo⟩ := cd.def_ 52 rfl
  have F_ldo : Fun K "_law_do" "_law_do" (top 76) (He.fAd K ("_law_do", none)) d_ldo := toFun (st := (top 76)) D_ldo
  have b_ldo : L2.Binds K d_ldo ["_law_store", "_law_k", "_law_wish_here"] [] := F_ldo.binds fun _ _ _ _ _ _ us hl => match us, hl with | [_, _, _], _ => rfl
  obtain ⟨d_lbegun, D_lbegun⟩ := cd.def_ 53 rfl
  have F_lbegun : Fun K "_law_begun" "_law_begun" (top 77) (He.fAd K ("_law_begun", none)) d_lbegun := toFun (st := (top 77)) D_lbegun
  have b_lbegun : L2.Binds K d_lbegun ["_law_plan"] [] := F_lbegun.binds fun _ _ _ _ _ _ us hl => match us, hl with | [_], _ => rfl
  obtain ⟨d_lcan, D_lcan⟩ := cd.def_ 54 rfl
  have F_lcan : Fun K "_law_can" "_law_can" (top 78) (He.fAd K ("_law_can", none)) d_lcan := toFun (st := (top 78)) D_lcan
  have b_lcan : L2.Binds K d_lcan ["_law_state"] [] := F_lcan.binds fun _ _ _ _ _ _ us hl => match us, hl with | [_], _ => rfl
  obtain ⟨d_lgo, D_lgo⟩ := cd.def_ 55 rfl
  have F_lgo : Fun K "_law_go" "_law_go" (top 79) (He.fAd K ("_law_go", none)) d_lgo := toFun (st := (top 79)) D_lgo
  have b_lgo : L2.Binds K d_lgo ["_law_plan", "_law_state", "_law_k"] [] := F_lgo.binds fun _ _ _ _ _ _ us hl => match us, hl with | [_, _, _], _ => rfl
  obtain ⟨d_lout, D_lout⟩ := cd.def_ 56 rfl
  have F_lout : Fun K "_law_outcome" "_law_outcome" (top 80) (He.fAd K ("_law_outcome", none)) d_lout := toFun (st := (top 80)) D_lout
  have b_lout : L2.Binds K d_lout ["_law_state"] [] := F_lout.binds fun _ _ _ _ _ _ us hl => match us, hl with | [_], _ => rfl
  obtain ⟨d_lshop, D_lshop⟩ := cd.def_ 57 rfl
  have F_lshop : Fun K "_law_shop" "_law_shop" (top 81) (He.fAd K ("_law_shop", none)) d_lshop := toFun (st := (top 81)) D_lshop
  have b_lshop : L2.Binds K d_lshop ["_law_plan"] [] := F_lshop.binds fun _ _ _ _ _ _ us hl => match us, hl with | [_], _ => rfl
  obtain ⟨d_lworked, D_lworked⟩ := cd.def_ 58 rfl
  have F_lworked : Fun K "_law_worked" "_law_worked" (top 82) (He.fAd K ("_law_worked", none)) d_lworked := toFun (st := (top 82)) D_lworked
  have b_lworked : L2.Binds K d_lworked ["_law_rows"] [] := F_lworked.binds fun _ _ _ _ _ _ us hl => match us, hl with | [_], _ => rfl
  obtain ⟨d_lnear, D_lnear⟩ := cd.def_ 59 rfl
  have F_lnear : Fun K "_law_value" "_law_value" (top 83) (He.fAd K ("_law_value", none)) d_lnear := toFun (st := (top 83)) D_lnear
  have b_lnear : L2.Binds K d_lnear ["_law_draws"] [] := F_lnear.binds fun _ _ _ _ _ _ us hl => match us, hl with | [_], _ => rfl
  obtain ⟨d_lwork, D_lwork⟩ := cd.def_ 60 rfl
  have F_lwork : Fun K "_law_work" "_law_work" (top 84) (He.fAd K ("_law_work", none)) d_lwork := toFun (st := (top 84)) D_lwork
  have b_lwork : L2.Binds K d_lwork ["_law_draws"] [] := F_lwork.binds fun _ _ _ _ _ _ us hl => match us, hl with | [_], _ => rfl
  obtain ⟨d_law, D_law⟩ := cd.def_ 61 rfl
  have F_law : Fun K "law" "law" (top 85) (He.fAd K ("law", none)) d_law := toFun (st := (top 85)) D_law
  have b_law : L2.Binds K d_law ["_law_script"] [] := F_law.binds fun _ _ _ _ _ _ us hl => match us, hl with | [_], _ => rfl
  obtain ⟨d_eBadWorks, D_eBadWorks⟩ := cd.def_ 62 rfl
  have F_eBadWorks : Fun K "__init__" "BadWorks.__init__" (inClass (top 3) 0) (He.fAd K ("BadWorks", some "__init__")) d_eBadWorks := toFun (st := (inClass (top 3) 0)) D_eBadWorks
  obtain ⟨d_eBadValue, D_eBadValue⟩ := cd.def_ 63 rfl
  have F_eBadValue : Fun K "__init__" "BadValue.__init__" (inClass (top 5) 0) (He.fAd K ("BadValue", some "__init__")) d_eBadValue := toFun (st := (inClass (top 5) 0)) D_eBadValue
  obtain ⟨d_eBadSize, D_eBadSize⟩ := cd.def_ 64 rfl
  have F_eBadSize : Fun K "__init__" "BadSize.__init__" (inClass (top 6) 0) (He.fAd K ("BadSize", some "__init__")) d_eBadSize := toFun (st := (inClass (top 6) 0)) D_eBadSize
  obtain ⟨d_eBadLimit, D_eBadLimit⟩ := cd.def_ 65 rfl
  have F_eBadLimit : Fun K "__init__" "BadLimit.__init__" (inClass (top 7) 0) (He.fAd K ("BadLimit", some "__init__")) d_eBadLimit := toFun (st := (inClass (top 7) 0)) D_eBadLimit
  obtain ⟨d_eNoThing, D_eNoThing⟩ := cd.def_ 66 rfl
  have F_eNoThing : Fun K "__init__" "NoThing.__init__" (inClass (top 8) 0) (He.fAd K ("NoThing", some "__init__")) d_eNoThing := toFun (st := (inClass (top 8) 0)) D_eNoThing
  obtain ⟨d_eNoWork, D_eNoWork⟩ := cd.def_ 67 rfl
  have F_eNoWork : Fun K "__init__" "NoWork.__init__" (inClass (top 10) 0) (He.fAd K ("NoWork", some "__init__")) d_eNoWork := toFun (st := (inClass (top 10) 0)) D_eNoWork
  obtain ⟨d_eCanNot, D_eCanNot⟩ := cd.def_ 68 rfl
  have F_eCanNot : Fun K "__init__" "CanNot.__init__" (inClass (top 11) 0) (He.fAd K ("CanNot", some "__init__")) d_eCanNot := toFun (st := (inClass (top 11) 0)) D_eCanNot
  have T_Hand : HTxt K (He.ga K "Hand") := ⟨He.cls_ok (cd.fact 82 rfl), He.noat_ok (cd.fact 84 rfl), He.noat_ok (cd.fact 85 rfl), He.noat_ok (cd.fact 86 rfl), He.noat_ok (cd.fact 87 rfl), He.noat_ok (cd.fact 88 rfl), He.noat_ok (cd.fact 89 rfl), He.noat_ok (cd.fact 90 rfl), He.noat_ok (cd.fact 91 rfl), He.noat_ok (cd.fact 92 rfl)⟩
  have M_Hand : Mk K (He.ga K "Hand") (He.fAd K ("Hand", some "__init__")) := He.mkr_ok (cd.fact 83 rfl)
  have T_Place : PTxt K (He.ga K "Place") := ⟨He.cls_ok (cd.fact 93 rfl), He.noat_ok (cd.fact 95 rfl), He.noat_ok (cd.fact 96 rfl), He.noat_ok (cd.fact 97 rfl), He.noat_ok (cd.fact 98 rfl)⟩
  have M_Place : Mk K (He.ga K "Place") (He.fAd K ("Place", some "__init__")) := He.mkr_ok (cd.fact 94 rfl)
  have T_Things : TTxt K (He.ga K "Things") := ⟨He.cls_ok (cd.fact 99 rfl), He.noat_ok (cd.fact 101 rfl), He.noat_ok (cd.fact 102 rfl), He.noat_ok (cd.fact 103 rfl), He.noat_ok (cd.fact 104 rfl)⟩
  have M_Things : Mk K (He.ga K "Things") (He.fAd K ("Things", some "__init__")) := He.mkr_ok (cd.fact 100 rfl)
  have T_Run : RTxt K (He.ga K "Run") := ⟨He.cls_ok (cd.fact 105 rfl), He.noat_ok (cd.fact 107 rfl), He.noat_ok (cd.fact 108 rfl), He.noat_ok (cd.fact 109 rfl), He.noat_ok (cd.fact 110 rfl)⟩
  have M_Run : Mk K (He.ga K "Run") (He.fAd K ("Run", some "__init__")) := He.mkr_ok (cd.fact 106 rfl)
  have T_Shop : STxt K (He.ga K "Shop") := ⟨He.cls_ok (cd.fact 111 rfl), He.noat_ok (cd.fact 113 rfl), He.noat_ok (cd.fact 114 rfl), He.noat_ok (cd.fact 115 rfl), He.noat_ok (cd.fact 116 rfl), He.noat_ok (cd.fact 117 rfl), He.noat_ok (cd.fact 118 rfl), He.noat_ok (cd.fact 119 rfl)⟩
  have M_Shop : Mk K (He.ga K "Shop") (He.fAd K ("Shop", some "__init__")) := He.mkr_ok (cd.fact 112 rfl)
  have h_Hand_lay : Meth K (He.ga K "Hand") "lay" (He.fAd K ("Hand", some "lay")) := He.meth_ok (cd.fact 120 rfl)
  have h_Hand_fetch : Meth K (He.ga K "Hand") "fetch" (He.fAd K ("Hand", some "fetch")) := He.meth_ok (cd.fact 121 rfl)
  have h_Run_can : Meth K (He.ga K "Run") "can" (He.fAd K ("Run", some "can")) := He.meth_ok (cd.fact 122 rfl)
  have h_Run_go : Meth K (He.ga K "Run") "go" (He.fAd K ("Run", some "go")) := He.meth_ok (cd.fact 123 rfl)
  have h_Run_ends : Meth K (He.ga K "Run") "ends" (He.fAd K ("Run", some "ends")) := He.meth_ok (cd.fact 124 rfl)
  have h_Run_belt : Meth K (He.ga K "Run") "belt" (He.fAd K ("Run", some "belt")) := He.meth_ok (cd.fact 125 rfl)
  have h_Run_outcome : Meth K (He.ga K "Run") "outcome" (He.fAd K ("Run", some "outcome")) := He.meth_ok (cd.fact 126 rfl)
  have h_Run_is_over : Meth K (He.ga K "Run") "is_over" (He.fAd K ("Run", some "is_over")) := He.meth_ok (cd.fact 127 rfl)
  have h_Run_stands : Meth K (He.ga K "Run") "stands" (He.fAd K ("Run", some "stands")) := He.meth_ok (cd.fact 128 rfl)
  have xHH : exmOne K (.ref (He.ga K "Held")) (.ref (He.ga K "Held")) = some true := He.exm_ok (cd.fact 129 rfl)
  have xNN : exmOne K (.ref (He.ga K "NoThing")) (.ref (He.ga K "NoThing")) = some true := He.exm_ok (cd.fact 130 rfl)
  have xHN : exmOne K (.ref (He.ga K "Held")) (.ref (He.ga K "NoThing")) = some false := He.exm_ok (cd.fact 131 rfl)
  have mo := c.more
  unfold ex at mo
  obtain ⟨x_BadWorks, mo⟩ := He.ba mo
  obtain ⟨x_BadValue, mo⟩ := He.ba mo
  obtain ⟨x_BadSize, mo⟩ := He.ba mo
  obtain ⟨x_BadLimit, mo⟩ := He.ba mo
  obtain ⟨x_NoThing, mo⟩ := He.ba mo
  obtain ⟨x_NoWork, mo⟩ := He.ba mo
  obtain ⟨x_CanNot, mo⟩ := He.ba mo
  obtain ⟨x_held, mo⟩ := He.ba mo
  obtain ⟨x_t0, mo⟩ := He.ba mo
  obtain ⟨x_steps, x_ne⟩ := He.ba mo
  have neS : He.ga K "do_lay" ≠ He.ga K "do_fetch" := of_decide_eq_true x_ne
  have ht0 : ∀ H, SqT K H (kwAt ("Shop", some "__init__") "locks" K) [] := fun H => noneB_ok x_t0 H
  obtain ⟨hh1, hh2⟩ := He.ba x_held
  obtain ⟨hh2, hh3⟩ := He.ba hh2
  obtain ⟨hh3, hh4⟩ := He.ba hh3
  have Z_Held : Err0 K mg "Held" (He.ga K "Held") := ⟨hh1, g_Held, hh2, of_decide_eq_true hh3, of_decide_eq_true hh4⟩
  obtain ⟨es, en, KD⟩ := c.t.tab 0 rfl
  have kd : ∀ (x f : PySem.Str), (x, He.Dv.glo f) ∈ ([("lay", .glo "do_lay"), ("fetch", .glo "do_fetch")] : List (PySem.Str × He.Dv)) → KDct K w (He.ga K "STEPS") x (.ref (He.ga K f)) := fun x f m => by
    obtain ⟨u, e1, e2⟩ := He.valsB_ok x_steps m
    exact ⟨es, en, u, KD.at_, KD.lit, e1, e2⟩
  have k0 := kd "lay" "do_lay" (List.mem_cons_self ..)
  have k1 := kd "fetch" "do_fetch" (List.mem_cons_of_mem _ (List.mem_cons_self ..))
  have q_BadWorks := fun_two (f := "count") F_eBadWorks (fun _ _ _ _ _ _ _ _ => rfl) (fun _ _ _ _ _ _ _ _ => rfl)
  have Z_BadWorks : ∀ base, Err1 PySem.Challenge.rw_turnways_k08_belts.prog w K mg base "BadWorks" "count" (He.ga K "BadWorks") := fun base => ⟨⟨_, _, errB_ok x_BadWorks q_BadWorks.1 q_BadWorks.2, ok_errI F_eBadWorks (errB_ok x_BadWorks q_BadWorks.1 q_BadWorks.2) ⟨rfl, rfl, rfl, by decide +kernel, rfl, by decide +kernel, by decide +kernel⟩ rfl (by decide) (by decide)⟩, g_BadWorks⟩
  have q_BadValue := fun_two (f := "value") F_eBadValue (fun _ _ _ _ _ _ _ _ => rfl) (fun _ _ _ _ _ _ _ _ => rfl)
  have Z_BadValue : ∀ base, Err1 PySem.Challenge.rw_turnways_k08_belts.prog w K mg base "BadValue" "value" (He.ga K "BadValue") := fun base => ⟨⟨_, _, errB_ok x_BadValue q_BadValue.1 q_BadValue.2, ok_errI F_eBadValue (errB_ok x_BadValue q_BadValue.1 q_BadValue.2) ⟨rfl, rfl, rfl, by decide +kernel, rfl, by decide +kernel, by decide +kernel⟩ rfl (by decide) (by decide)⟩, g_BadValue⟩
  have q_BadSize := fun_two (f := "size") F_eBadSize (fun _ _ _ _ _ _ _ _ => rfl) (fun _ _ _ _ _ _ _ _ => rfl)
  have Z_BadSize : ∀ base, Err1 PySem.Challenge.rw_turnways_k08_belts.prog w K mg base "BadSize" "size" (He.ga K "BadSize") := fun base => ⟨⟨_, _, errB_ok x_BadSize q_BadSize.1 q_BadSize.2, ok_errI F_eBadSize (errB_ok x_BadSize q_BadSize.1 q_BadSize.2) ⟨rfl, rfl, rfl, by decide +kernel, rfl, by decide +kernel, by decide +kernel⟩ rfl (by decide) (by decide)⟩, g_BadSize⟩
  have q_BadLimit := fun_two (f := "limit") F_eBadLimit (fun _ _ _ _ _ _ _ _ => rfl) (fun _ _ _ _ _ _ _ _ => rfl)
  have Z_BadLimit : ∀ base, Err1 PySem.Challenge.rw_turnways_k08_belts.prog w K mg base "BadLimit" "limit" (He.ga K "BadLimit") := fun base => ⟨⟨_, _, errB_ok x_BadLimit q_BadLimit.1 q_BadLimit.2, ok_errI F_eBadLimit (errB_ok x_BadLimit q_BadLimit.1 q_BadLimit.2) ⟨rfl, rfl, rfl, by decide +kernel, rfl, by decide +kernel, by decide +kernel⟩ rfl (by decide) (by decide)⟩, g_BadLimit⟩
  have q_NoThing := fun_two (f := "name") F_eNoThing (fun _ _ _ _ _ _ _ _ => rfl) (fun _ _ _ _ _ _ _ _ => rfl)
  have Z_NoThing : ∀ base, Err1 PySem.Challenge.rw_turnways_k08_belts.prog w K mg base "NoThing" "name" (He.ga K "NoThing") := fun base => ⟨⟨_, _, errB_ok x_NoThing q_NoThing.1 q_NoThing.2, ok_errI F_eNoThing (errB_ok x_NoThing q_NoThing.1 q_NoThing.2) ⟨rfl, rfl, rfl, by decide +kernel, rfl, by decide +kernel, by decide +kernel⟩ rfl (by decide) (by decide)⟩, g_NoThing⟩
  have q_NoWork := fun_two (f := "number") F_eNoWork (fun _ _ _ _ _ _ _ _ => rfl) (fun _ _ _ _ _ _ _ _ => rfl)
  have Z_NoWork : ∀ base, Err1 PySem.Challenge.rw_turnways_k08_belts.prog w K mg base "NoWork" "number" (He.ga K "NoWork") := fun base => ⟨⟨_, _, errB_ok x_NoWork q_NoWork.1 q_NoWork.2, ok_errI F_eNoWork (errB_ok x_NoWork q_NoWork.1 q_NoWork.2) ⟨rfl, rfl, rfl, by decide +kernel, rfl, by decide +kernel, by decide +kernel⟩ rfl (by decide) (by decide)⟩, g_NoWork⟩
  have q_CanNot := fun_two (f := "number") F_eCanNot (fun _ _ _ _ _ _ _ _ => rfl) (fun _ _ _ _ _ _ _ _ => rfl)
  have Z_CanNot : ∀ base, Err1 PySem.Challenge.rw_turnways_k08_belts.prog w K mg base "CanNot" "number" (He.ga K "CanNot") := fun base => ⟨⟨_, _, errB_ok x_CanNot q_CanNot.1 q_CanNot.2, ok_errI F_eCanNot (errB_ok x_CanNot q_CanNot.1 q_CanNot.2) ⟨rfl, rfl, rfl, by decide +kernel, rfl, by decide +kernel, by decide +kernel⟩ rfl (by decide) (by decide)⟩, g_CanNot⟩
  have okIsV := fun (B0 : Heap) => ok_isV (P := PySem.Challenge.rw_turnways_k08_belts.prog) (w := w) (base := B0) F_isv B g_is_value b_isv 3
  have okSame := fun (B0 : Heap) => ok_sameD (P := PySem.Challenge.rw_turnways_k08_belts.prog) (w := w) (base := B0) F_same B g_same b_same 3 (by decide)
  have okCkV := fun (B0 : Heap) => ok_ckV (n := 3) F_ckv (okIsV B0) g_is_value F_isv.kp b_isv (Z_BadValue B0)
  have okCkT := fun (B0 : Heap) => ok_ckT F_ckt B (Z_NoThing B0)
  have okGoing := fun (B0 : Heap) => ok_going (P := PySem.Challenge.rw_turnways_k08_belts.prog) (w := w) (mg := mg) (base := B0) F_going T_Hand Z_Held
  have okHalt := fun (B0 : Heap) => ok_halt (P := PySem.Challenge.rw_turnways_k08_belts.prog) (w := w) (mg := mg) (base := B0) F_halt T_Hand Z_Held
  have okAsk := fun (B0 : Heap) => ok_ask F_ask B T_Hand (okHalt B0) g_halt F_halt.kp b_halt
  have okCall := fun (B0 : Heap) => ok_call (n := 3) F_ccall (okGoing B0) g_check_going F_going.kp b_going (okCkT B0) g_check_thing F_ckt.kp b_ckt (okCkV B0) g_check_value F_ckv.kp b_ckv
  have parts := fun (B0 : Heap) => (⟨⟨_, okCall B0, g_check_call, F_ccall.kp⟩, ⟨_, _, okAsk B0, g_ask, F_ask.kp, b_ask⟩⟩ : Parts PySem.Challenge.rw_turnways_k08_belts.prog w K mg B0 (He.ga K "Hand") (He.ga K "Held") (He.ga K "NoThing") (He.ga K "BadValue") 3)
  have okLay := fun (B0 : Heap) => ok_lay (CS := He.ga K "Shop") F_lay T_Hand T_Shop (parts B0)
  have okFetch := fun (B0 : Heap) => ok_fetch (CS := He.ga K "Shop") F_fetch T_Hand T_Shop (parts B0)
  have cellMs := fun (B0 : Heap) => (⟨⟨_, _, okLay B0, h_Hand_lay, b_lay⟩, ⟨_, _, okFetch B0, h_Hand_fetch, b_fetch⟩⟩ : CellMs PySem.Challenge.rw_turnways_k08_belts.prog w K mg B0 (He.ga K "Hand") (He.ga K "Shop") (He.ga K "Held") (He.ga K "NoThing") (He.ga K "BadValue") 3)
  have okHI := fun (B0 : Heap) => ok_HI (P := PySem.Challenge.rw_turnways_k08_belts.prog) (w := w) (mg := mg) (base := B0) F_HI T_Hand
  have okPI := fun (B0 : Heap) => ok_PI (P := PySem.Challenge.rw_turnways_k08_belts.prog) (w := w) (mg := mg) (base := B0) F_PI T_Place
  have okRet := fun (kw : Nat) (B0 : Heap) => ok_ret (P := PySem.Challenge.rw_turnways_k08_belts.prog) (w := w) (mg := mg) (base := B0) (kw := kw) F_ret T_Hand g_Held
  have okCome := fun (B0 : Heap) => ok_come (CS := He.ga K "Shop") (n := 3) F_come B T_Hand T_Shop M_Hand (okHI B0) g_Hand b_HI (okRet 11 B0) g_returned F_ret.kp b_ret (okCkV B0) g_check_value F_ckv.kp b_ckv M_Place (okPI B0) g_Place b_PI
  have okTI := fun (B0 : Heap) => ok_TI (P := PySem.Challenge.rw_turnways_k08_belts.prog) (w := w) (mg := mg) (base := B0) F_TI T_Things
  have okFirst := fun (B0 : Heap) => ok_first (CS := He.ga K "Shop") F_first B T_Things T_Shop M_Things (okTI B0) g_Things b_TI
  have okAgain := fun (B0 : Heap) => ok_again F_again B T_Things M_Things (okTI B0) g_Things b_TI
  have okRoom := fun (B0 : Heap) => ok_room (P := PySem.Challenge.rw_turnways_k08_belts.prog) (w := w) (base := B0) F_room B T_Things
  have okNeed := fun (B0 : Heap) => ok_need F_need B T_Things (okSame B0) g_same F_same.kp b_same (okRoom B0) g_has_room F_room.kp b_room
  have okDLay := fun (B0 : Heap) => ok_do_lay (P := PySem.Challenge.rw_turnways_k08_belts.prog) (w := w) (mg := mg) (base := B0) F_dlay T_Things
  have okDFetch := fun (B0 : Heap) => ok_do_fetch (P := PySem.Challenge.rw_turnways_k08_belts.prog) (w := w) (mg := mg) (base := B0) F_dfetch T_Things
  obtain ⟨S, s0, s1, only⟩ := both (a := spStep K (He.ga K "Things") (dLay K)) (b := spStep K (He.ga K "Things") (dFetch K)) neS
  have held : ∀ (B0 : Heap) (f : Addr) (sp : Sp), S f = some sp → Held PySem.Challenge.rw_turnways_k08_belts.prog w K mg B0 1 f sp := fun B0 f sp e => by
    rcases only f sp e with ⟨rfl, rfl⟩ | ⟨rfl, rfl⟩
    · exact ⟨_, _, okDLay B0, F_dlay.kp, b_dlay⟩
    · exact ⟨_, _, okDFetch B0, F_dfetch.kp, b_dfetch⟩
  have okDStep := fun (B0 : Heap) => ok_do_step F_dstep g_STEPS (held B0)
  have sk : StepKs K w (He.ga K "Things") (He.ga K "STEPS") S := ⟨⟨_, k0, s0⟩, ⟨_, k1, s1⟩⟩
  have okWhole := fun (B0 : Heap) => ok_whole (P := PySem.Challenge.rw_turnways_k08_belts.prog) (w := w) (base := B0) F_whole B
  have okPlace := fun (B0 : Heap) => ok_place (CT := He.ga K "Things") (CP := He.ga K "Place") F_place B T_Run (okWhole B0) g_is_whole F_whole.kp b_whole (Z_NoWork B0)
  have okCanGo := fun (B0 : Heap) => ok_canGo (n := 3) F_cango T_Run T_Place (okNeed B0) g_need_not_wait F_need.kp b_need
  have okCan := fun (B0 : Heap) => ok_can (n := 3) RD.keeps F_can B T_Run (okCanGo B0) g_can_go F_cango.kp b_cango
  have okEnds := fun (B0 : Heap) => ok_ends (P := PySem.Challenge.rw_turnways_k08_belts.prog) (w := w) (base := B0) (CT := He.ga K "Things") F_ends B T_Run T_Place
  have okBelt := fun (B0 : Heap) => ok_belt (CP := He.ga K "Place") F_belt T_Run T_Things (okCkT B0) g_check_thing F_ckt.kp b_ckt
  have okPairs := fun (B0 : Heap) => ok_pairs2 (P := PySem.Challenge.rw_turnways_k08_belts.prog) (w := w) (base := B0) F_pairs B
  have okOutc := fun (B0 : Heap) => ok_outcome2 F_outc B T_Run T_Place T_Things (okEnds B0) h_Run_ends b_ends (okPairs B0) g_in_pairs F_pairs.kp b_pairs
  have okOver := fun (B0 : Heap) => ok_over (n := 3) F_over T_Run h_Run_can (okCan B0) b_can
  have okStands := fun (B0 : Heap) => ok_stands (n := 3) F_stands T_Run (okOver B0) h_Run_is_over b_over (okEnds B0) h_Run_ends b_ends
  have okRI := fun (B0 : Heap) => ok_RI F_RI B T_Run T_Shop ((okFirst B0).mono (by omega : 3 ≤ 18)) g_first_things F_first.kp b_first ((okCome B0).mono (by omega : 11 + 3 + 4 ≤ 18)) g_come F_come.kp b_come
  have okGo := fun (B0 : Heap) => ok_go F_go T_Run T_Place (by omega : 2 ≤ 18) ((okPlace B0).mono (by omega)) g_place_of F_place.kp b_place ((okCanGo B0).mono (by omega)) g_can_go F_cango.kp b_cango (Z_CanNot B0) ((okAgain B0).mono (by omega)) g_things_again F_again.kp b_again ((okDStep B0).mono (by omega)) g_do_step F_dstep.kp b_dstep ((okCome B0).mono (by omega : 11 + 3 + 4 ≤ 18)) g_come F_come.kp b_come
  have okCkW := fun (B0 : Heap) => ok_ckW F_ckw B i_MOST_WORKS ⟨_, rfl⟩ (Z_BadWorks B0)
  have okWord := fun (B0 : Heap) => ok_word (P := PySem.Challenge.rw_turnways_k08_belts.prog) (w := w) (base := B0) F_word B i_LONGEST_WORD ⟨_, rfl⟩
  have okCkN := fun (B0 : Heap) => ok_names F_ckn mSet (okWord B0) g_is_word F_word.kp b_word
  have okCkS := fun (B0 : Heap) => ok_ckS F_cks (okWhole B0) g_is_whole F_whole.kp b_whole (Z_BadSize B0)
  have okCkL := fun (B0 : Heap) => ok_ckL F_ckl (okWhole B0) g_is_whole F_whole.kp b_whole (Z_BadLimit B0)
  have okCop := fun (B0 : Heap) => ok_copied (P := PySem.Challenge.rw_turnways_k08_belts.prog) (w := w) (base := B0) F_cop B
  have okSI := fun (B0 : Heap) => ok_SI (n := 3) F_SI B T_Shop (okCop B0) g_copied F_cop.kp b_cop (okCkW B0) g_check_works F_ckw.kp b_ckw (okCkN B0) g_check_names F_ckn.kp b_ckn (okCkV B0) g_check_value F_ckv.kp b_ckv (okCkS B0) g_check_size F_cks.kp b_cks (okCkL B0) g_check_limit F_ckl.kp b_ckl i_TOP_LONGEST ⟨_, rfl⟩ i_TOP_MOST ⟨_, rfl⟩
  have FSI : FunSI K (kwAt ("Shop", some "__init__") "locks" K) (He.fAd K ("Shop", some "__init__")) d_SI := D_SI
  have okLSource := fun (B0 : Heap) => ok_source (P := PySem.Challenge.rw_turnways_k08_belts.prog) (w := w) (base := B0) F_lsource B
  have okLDraw := fun (B0 : Heap) => ok_draw (P := PySem.Challenge.rw_turnways_k08_belts.prog) (w := w) (base := B0) F_ldraw B
  have okLPick := fun (B0 : Heap) => ok_pick F_lpick B (okLDraw B0) g__law_draw F_ldraw.kp b_ldraw
  have okLSame := fun (B0 : Heap) => ok_lsame (P := PySem.Challenge.rw_turnways_k08_belts.prog) (w := w) (base := B0) F_lsame B g__law_same b_lsame 8
  have okLTold := fun (B0 : Heap) => ok_told (P := PySem.Challenge.rw_turnways_k08_belts.prog) (w := w) (base := B0) F_ltold B
  have okLWish := fun (B0 : Heap) => ok_wishL F_lwish B (okLTold B0) g__law_told F_ltold.kp b_ltold
  have okLAsk := fun (B0 : Heap) => ok_askL F_lask T_Hand (cellMs B0)
  have okLPlay := fun (B0 : Heap) => ok_play F_lplay B T_Hand (okLAsk B0) g__law_ask F_lask.kp b_lask (okLWish B0) g__law_wish F_lwish.kp b_lwish
  have okLStand := fun (B0 : Heap) => ok_stand (n := 3) F_lstand B (okLWish B0) g__law_wish F_lwish.kp b_lwish
  have okLLets := fun (B0 : Heap) => ok_lets (P := PySem.Challenge.rw_turnways_k08_belts.prog) (w := w) (base := B0) F_llets B
  have okLChanged := fun (B0 : Heap) => ok_changed (P := PySem.Challenge.rw_turnways_k08_belts.prog) (w := w) (base := B0) F_lchanged B
  have okLDo := fun (B0 : Heap) => ok_doL F_ldo B (okLChanged B0) g__law_changed F_lchanged.kp b_lchanged
  have okLBegun := fun (B0 : Heap) => ok_begun F_lbegun B (okLStand B0) g__law_stand F_lstand.kp b_lstand
  have okLCan := fun (B0 : Heap) => ok_canL (n := 3) F_lcan B (okLLets B0) g__law_lets F_llets.kp b_llets
  have okLGo := fun (B0 : Heap) => ok_goL (n := 3) F_lgo B (okLDo B0) g__law_do F_ldo.kp b_ldo (okLStand B0) g__law_stand F_lstand.kp b_lstand
  have okLOut := fun (B0 : Heap) => ok_outL (P := PySem.Challenge.rw_turnways_k08_belts.prog) (w := w) (base := B0) F_lout B
  have okLNear := fun (B0 : Heap) => ok_near F_lnear (okLPick B0) g__law_pick F_lpick.kp b_lpick
  have okLWork := fun (B0 : Heap) => ok_workL F_lwork B (okLPick B0) g__law_pick F_lpick.kp b_lpick (okLDraw B0) g__law_draw F_ldraw.kp b_ldraw (okLNear B0) g__law_value F_lnear.kp b_lnear
  have memT : ((He.cT K ("_law_worked", none)).2, qLam) ∈ (tf.map (He.cT K)).map fun p => (p.2, qLam) := List.mem_cons_self ..
  have onlyT : ∀ p ∈ (tf.map (He.cT K)).map (fun p => (p.2, qLam)), p.1 = (He.cT K ("_law_worked", none)).2 → p.2 = qLam := fun p hp _ => by
    obtain ⟨q, _, rfl⟩ := List.mem_map.mp hp
    rfl
  refine ⟨d_law, tf.map (He.cT K), spLaw K ((tf.map (He.cT K)).map fun p => (p.2, qLam)), fun p hp => ?_, fun p hp => ?_, fun p hp => ?_, binds_of F_law (fun _ _ _ _ _ _ _ => rfl), fun H a ns hl hbits hT hns => ⟨a, ns, rfl, hns, hl, fun p hp => ?_, fun _ => rfl⟩, fun base X0 G0 hTB => ?_⟩
  · obtain ⟨q, hq, rfl⟩ := List.mem_map.mp hp
    exact c.empty q hq
  · obtain ⟨q, hq, rfl⟩ := List.mem_map.mp hp
    exact c.out q hq
  · obtain ⟨q, hq, rfl⟩ := List.mem_map.mp hp
    exact codeHd_of_K KX (c.hd q hq)
  · obtain ⟨q, hq, rfl⟩ := List.mem_map.mp hp
    exact LamX.TabS.nil (hT q hq)
  · have okLWorked := ok_worked (P := PySem.Challenge.rw_turnways_k08_belts.prog) (w := w) (toFunC F_lworked) (hTB _ (List.mem_cons_self ..)) memT onlyT
    have okLShop := ok_shopL (N := 7) F_lshop B M_Shop (okSI base) g_Shop FSI okLWorked g__law_worked F_lworked.kp b_lworked (by decide)
    exact ok_law (N := 19) (n := 3) (kw := 11) F_law B mMin mAny T_Run
      ⟨_, _, (okLSource base).mono (by omega : 1 ≤ 19), g__law_source, F_lsource.kp, b_lsource⟩ ⟨_, _, (okLDraw base).mono (by omega : 1 ≤ 19), g__law_draw, F_ldraw.kp, b_ldraw⟩
      ⟨_, _, (okLPick base).mono (by omega : 2 ≤ 19), g__law_pick, F_lpick.kp, b_lpick⟩ ⟨_, _, (okLSame base).mono (by omega : 8 + 1 ≤ 19), g__law_same, F_lsame.kp, b_lsame⟩ ⟨_, _, (okLWork base).mono (by omega : 4 ≤ 19), g__law_work, F_lwork.kp, b_lwork⟩
      ⟨_, _, okLShop.mono (by omega : 7 + 2 ≤ 19), g__law_shop, F_lshop.kp, b_lshop⟩ ⟨_, _, (okLBegun base).mono (by omega : 4 ≤ 19), g__law_begun, F_lbegun.kp, b_lbegun⟩ ⟨_, _, (okLCan base).mono (by omega : 2 ≤ 19), g__law_can, F_lcan.kp, b_lcan⟩ ⟨_, _, (okLGo base).mono (by omega : 4 ≤ 19), g__law_go, F_lgo.kp, b_lgo⟩ ⟨_, _, (okLOut base).mono (by omega : 4 ≤ 19), g__law_outcome, F_lout.kp, b_lout⟩
      M_Run g_Run b_RI (fun B0 _ => (okRI B0).mono (by omega : 18 + 1 ≤ 19)) h_Run_go b_go (fun B0 _ => (okGo B0).mono (by omega : 18 + 1 ≤ 19))
      ⟨_, _, (okCan base).mono (by omega : 3 + 4 ≤ 19), h_Run_can, b_can⟩ ⟨_, _, (okOutc base).mono (by omega : 3 ≤ 19), h_Run_outcome, b_outc⟩ ⟨_, _, (okBelt base).mono (by omega : 4 ≤ 19), h_Run_belt, b_belt⟩ ⟨_, _, (okOver base).mono (by omega : 3 + 5 ≤ 19), h_Run_is_over, b_over⟩ ⟨_, _, (okStands base).mono (by omega : 3 + 6 ≤ 19), h_Run_stands, b_stands⟩
      xHH sk rfl (wk_of (kw := 10) (fun B0 _ => okLPlay B0) g__law_play F_lplay.kp b_lplay rfl)
end TWHead
open PySem PySem.W PySem.Calls PyProof.Rows
set_option maxRecDepth 100000 in
set_option maxHeartbeats 0 in
theorem PySem.Challenge.cw_turnways_k08_belts_holds : PySem.Challenge.rw_turnways_k08_belts.Holds := by
  w_on; o_law
  refine HandSHeadRun.head_any (r := OpenLaw.row PySem.Challenge.rw_turnways_k08_belts) (q := TWHead.qv) (H := TWHead.hk) (ob := TWHead.ob) (M := 40000) (loose := TWHead.names) (d := HandSHeadRun.topDef (OpenLaw.row PySem.Challenge.rw_turnways_k08_belts).prog 85) (kwd := []) TWHead.ob_eq
    (by kernel_rfl) (fun s => by kernel_rfl) TWHead.run (by kernel_rfl) (by kernel_rfl) (by kernel_rfl) (by rfl) (by first | assumption | decide +kernel) (by decide +kernel) ⟨rfl, rfl, rfl, rfl, rfl, by decide +kernel⟩ ?hw ?hc
  case hw => w_witness2
  case hc =>
    refine LamX.walk_ofTsE (l := PySem.Challenge.rw_turnways_k08_belts) (n := 63) (k := 21) (x := "_law_script") (CX := fun _ => L2.CX0) rfl (by decide) (by kernel_rfl) ⟨rfl, by decide, by decide⟩ ?F (fun _ _ _ _ _ z => z)
    intro w mg fa h Y G hmg0
    obtain ⟨K, KX, c⟩ := Y
    have hmg : mg ("law" : PySem.Str) = some (.ref fa) := by
      have e : (HandSHeadRun.topDef (OpenLaw.row PySem.Challenge.rw_turnways_k08_belts).prog 85).name = ("law" : PySem.Str) := by kernel_rfl
      rw [← e]
      exact hmg0
    exact ⟨K, KX, TWHead.at_end w mg fa h K KX c G hmg⟩
