import PyProof.Rows.All
import Wide.All
import OpenK.AllK
import Wide.FinOn
import PySem.Challenge.RW_turnways_k19_long_runs
import HandS.ForMost
import HandS.IsInst
import HandS.Exc
import HandS.ExcInit
import HandS.ExcIs
import HandS.ExcValue
import HandS.Lambda
import HandS.EndTab
import HandS.Defaults
import HandS.MakeKw
import HandS.ExcField
import HandS.TryOnly
import HandS.TryMany
import HandS.WordsExc
import HandS.Walk
import HandS.Zip
import KE.KStateDown
import HandS.Head0
import HandS.Head1
import HandS.Head2
import HandS.HeadEnd
import HandS.HeadHook1
import HandS.HeadHook2
import HandS.HeadHook3
import HandS.HeadHook4
import HandS.HeadWalk
import HandS.Dict
import HandS.Star
import HandS.CallLocal
import HandS.DictComp
import HandS.Flow
import HandS.Nested
import HandS.More
import HandS.SetKeys
import HandS.Text
import HandS.Conv
import HandS.Style
import HandS.MakeKwOnly
set_option Elab.async false
set_option linter.all false
set_option maxRecDepth 100000
set_option maxHeartbeats 0
/-! law_k19_long_runs: rules of one's own (errors, closures, dicts, calls over a larger base); the program's defs, one theorem each; a mirror of a run; plans and their states; the law itself; the head by one kernel run with its facts; the end. -/
/-! Own errors as values: made by place and by name, asked by isinstance, their field read. -/
namespace PySem.W
open PySem PySem.Spec PySem.Calls PyProof.Rows
section
variable {prog : Program} {w : World} {A : Around} {E : Value → Shared → Prop} {s : Shared} {K : Frag} {x D : Addr} {ox : Obj} {od : Option Obj}
theorem ve_findData {C : Addr} {name : Str} {a g : Value} (hc : (clsIn K C).isSome = true) (ha : findIn K (.ref C) name = some (some a)) (hg : specialIn K a "__get__" = some (some g)) (ht : takesIn K a = some true) : findObj K C od name = some (.bind g a) := by
  obtain ⟨cd, hc⟩ := Option.isSome_iff_exists.mp hc
  unfold findObj
  rw [hc, Option.bind_some, ha, Option.bind_some]
  simp [hg, ht]
/-- what isinstance leans on, of the class at D of an error -/
structure AsksOf (K : Frag) (D : Addr) : Prop where
  by_ : findIn K (.ref D) "__getattribute__" = some (some (.builtin "BaseException.__getattribute__"))
  else_ : findIn K (.ref D) "__getattr__" = some none
  isE : subIn K (.ref D) (.type "BaseException") = some true
  dct : hasDictIn K D = true
  clsA : findIn K (.ref D) "__class__" = some (some (.builtin "object.__class__"))
  got : specialIn K (.builtin "object.__class__") "__get__" = some (some (.builtin "getset_descriptor.__get__"))
  took : takesIn K (.builtin "object.__class__") = some true
  obj : mroIn K D (.type "object") = some true
/-- e.__class__ of an error e, whether or not it has a dict of its own -/
theorem ve_class {Q : Option Value → Shared → Prop} (Z : AsksOf K D) (X : K.In s.heap) (I : InstAt s.heap x ox D od) (done : Q (some (.ref D)) { s with toks := s.toks + 1 }) :
    wpAny (model prog w) A (getAttr? (.ref x) "__class__") Q E s := by
  have known : (clsIn K D).isSome = true := by
    obtain ⟨cd, e, _⟩ := any_some Z.dct
    rw [e]
    rfl
  have found : findObj K D od "__class__" = some (.bind (.builtin "getset_descriptor.__get__") (.builtin "object.__class__")) :=
    ve_findData known Z.clsA Z.got Z.took
  have other : (Value.builtin "BaseException.__getattribute__" == Value.builtin "object.__getattribute__") = false := by
    decide +kernel
  have noHeap : (onTheHeap (Value.ref D) && Value.builtin "BaseException.__getattribute__" == Value.builtin "object.__getattribute__") = false := by
    rw [other]
    rfl
  have noExpr : (false && onTheHeap (Value.builtin "BaseException.__getattribute__")) = false := rfl
  obtain ⟨hp, g, d, t, os⟩ := s
  have ofType := I.type (M := model prog w)
  have ofBy := looks_findIn (M := model prog w) X Z.by_
  have ofElse := looks_findIn (M := model prog w) X Z.else_
  have ofCls := looks_find (M := model prog w) X I found
  have isErr : Looks (model prog w) hp (isInstance (.ref x) (.type "BaseException")) true :=
    ofType.andThen (looks_subIn X Z.isE)
  unfold getAttr? getAttrBy? getAttrBy
  refine wpAny_bind (wpAny_mkText (wpAny_bind ?_))
  refine wpAny_attempt (wpAny_holding (wpAny_bind ?_))
  refine ofType.at (wpAny_bind (ofBy.at ?_))
  show wpAny _ _ (if (onTheHeap (Value.ref D) && Value.builtin "BaseException.__getattribute__" == Value.builtin "object.__getattribute__") = true then _ else _) _ _ _
  rw [noHeap, if_neg Bool.false_ne_true]
  unfold getAttrByItsOwn hookBefore
  refine wpAny_bind ?_
  rw [if_pos (show onTheHeap (Value.ref D) = true from rfl)]
  refine ofElse.at (wpAny_bind ?_)
  refine wpAny_attempt (wpAny_holding ?_)
  unfold callGetattribute
  rw [noExpr, if_neg Bool.false_ne_true]
  unfold boundAndCalled
  rw [PySem.F.excAttr_ValueError.ga.bind (.ref x)]
  refine wpAny_bind (wpAny_pure ?_)
  show wpAny _ _ (call (.builtin "BaseException.__getattribute__") [.ref x, .str "__class__" t]) _ _ _
  refine wpAny_call (codeAny_call_builtin PySem.F.excAttr_ValueError.ga.plain PySem.F.entry_bexc_ga ?_)
  refine @check_slot (model prog w) _ _ ⟨hp, g, d, t + 1, os⟩ "BaseException.__getattribute__" "BaseException" "__getattribute__" (.ref x) [.str "__class__" t] []
    _ (by decide +kernel) (by decide +kernel) isErr (PySem.F.args_bexc_ga (.ref x) (.str "__class__" t)) ?_
  unfold Builtin.«object.__getattribute__»
  refine wpAny_bind ?_
  refine wpAny_of_eq (a := ((Value.ref x : Value), [Value.str "__class__" t])) (by first | rfl | (simp only [slotArgs]; rfl)) ?_
  refine wpAny_bind (wpAny_pure (wpAny_bind (ofType.at (wpAny_bind ?_))))
  refine ofCls.at ?_
  show wpAny _ _ (holding [Value.builtin "object.__class__"] (call (.builtin "getset_descriptor.__get__") [.builtin "object.__class__", .ref x, .ref D]) >>= ret) _ _ _
  refine wpAny_bind (wpAny_holding (wpAny_call ?_))
  refine class_get (s := ⟨hp, g, d, t + 1, os⟩) (ox := ox) (od := od) X I Z.obj (wpAny_pure ?_)
  show wpAny _ _ (handedOut (.ref D)) _ _ _
  rw [handedOut_of (v := .ref D) rfl]
  first
    | exact wpAny_pure (wpAny_pure done)
    | exact wpAny_pure done
    | exact wpAny_pure (wpAny_bind (wpAny_pure (wpAny_pure done)))
theorem cls_there {D : Addr} (Z : AsksOf K D) : ∃ o c, K.lookup D = some o ∧ o.data = .cls c := by
  obtain ⟨c, e, _⟩ := any_some Z.dct
  unfold clsIn at e
  split at e
  · rename_i q
    exact ⟨_, _, q, rfl⟩
  · cases e
theorem ve_kitx (Z : AsksOf K D) : KitX K (.ref x) (.ref D) (fun h => InstAt h x ox D od) := by
  obtain ⟨o, c, q, hd⟩ := cls_there Z
  refine ⟨fun _ _ _ I => I.type, fun _ _ X _ => ?_, fun h tp dd its n sl X tup => ?_, fun X I k => ve_class Z X I k⟩
  · intro A' Q' E' s' kept done
    unfold isType loadHead
    refine wpAny_bind (wpAny_loadPart (kept _ _ (X _ _ q)) ?_)
    obtain ⟨oc, od', dt, sl⟩ := o
    subst hd
    exact wpAny_pure done
  · refine Bool.eq_false_iff.mpr fun z => ?_
    have e : D = tp := Value.ref.inj (beq_iff_eq.mp z)
    rw [← e, X _ _ q] at tup
    have y := Option.some.inj tup
    rw [y] at hd
    cases hd
end
end PySem.W

namespace L2
open PySem PySem.Spec PyProof.Rows
/-- an error of the class at C stands at a: with a dict of its fields, or without any -/
def ErrAt (H : Hp) (a C : Addr) : Prop := (∃ d fs, H a = some (exo a C (some d)) ∧ H d = some (exd d fs)) ∨ H a = some (ExO (.ref C) a)
theorem ErrAt.same {H H' : Hp} {a C : Addr} (e : Same H H') (h : ErrAt H a C) : ErrAt H' a C := by
  rcases h with ⟨d, fs, h1, h2⟩ | h
  · exact .inl ⟨d, fs, e _ _ h1, e _ _ h2⟩
  · exact .inr (e _ _ h)
theorem ErrAt.inst {P : Program} {w : World} {H : Hp} {h : Heap} {a C : Addr} (hok : HOk P w H h) (e : ErrAt H a C) : ∃ (ox : Obj) (od : Option Obj), PySem.W.InstAt h a ox C od := by
  rcases e with ⟨d, fs, h1, h2⟩ | h1
  · obtain ⟨t1, ho⟩ := exo_at hok h1
    obtain ⟨mA, hns, _⟩ := exd_at hok h2
    obtain ⟨od, hod, _⟩ := lookIn_ns hns
    exact ⟨_, some od, ho, rfl, rfl, hod⟩
  · obtain ⟨⟨oe, vs, ho, hz, hd, _⟩, _, _⟩ := hok a _ h1
    obtain ⟨oc, odd, dt, sl⟩ := oe
    obtain ⟨z1, z2⟩ := hz
    dsimp only at z1 z2 hd
    subst z1 z2 hd
    exact ⟨_, none, ho, rfl, rfl, trivial⟩
/-- isinstance(e, c), e such an error -/
def rIsV (K : PySem.W.Frag) : List V → Hp → VK → Prop := fun xs H Q => ∃ (a D : Addr) (c : V) (cv : Value) (b : Bool), xs = [.ref a, c] ∧ ErrAt H a D ∧ ExcC K D ∧ ClsV c cv ∧ PySem.W.kitOne K (.ref D) cv = some b ∧ Q (.bl b) H
theorem call_isV {X : Cx} : CallR X (.builtin "isinstance") (rIsV X.K) := by
  intro pins s σ H xs us Q I r h
  obtain ⟨a, D, c, cv, b, rfl, hE, C, k, e, q⟩ := h
  obtain ⟨u1, u2, rfl, r1, r2⟩ := vals2 r
  have e2 := k.eq r2
  subst e2
  cases (show u1 = Value.ref a from r1)
  obtain ⟨ox, od, J⟩ := hE.inst I.hok
  exact PySem.W.kia_one (PySem.W.ve_kitx ⟨C.hg, C.hk, C.hs, C.hd, C.ha, C.hn, C.ht, C.hm⟩) I.kIn J e (fun z => nomatch z) fun tk => ⟨.bl b, H, I.tok tk, rfl, q⟩
end L2
namespace PySem
namespace ErrV
open PySem.Spec PySem.Calls PyProof.Rows PySem.HandSPX
section
variable {prog : Program} {w : World} {A : Around} {E : Value → Shared → Prop} {R : Result → Shared → Prop} {h : Heap} {g : Array GenState} {d : Drawn} {t : Nat} {os : OsState}
variable {nm q : Str} {C N : Addr} {bs bm bmB : List Value} {hdct : Bool} {sn : List Str} {sub : List Value} {ab : Bool} {col : Option Bool} {dd : Option Addr} {k0 k1 k2 k3 k5 : Option Value} {B newId initId : String}
variable {rest : List Value} {kw : List (Str × Value)} {fI : Addr}

/-- __new__ asks nothing of the keywords -/
theorem asks_new (F : ExcBaseFacts B newId initId bmB) (hT : ∀ X : String, bm.contains (.type X) = bmB.contains (.type X)) {Q : Unit → Shared → Prop} {M : Model}
    (hC : h.get? C = some (excClassObj nm q C N bs bm hdct sn sub ab col dd k0 k1 k2 k3 k5 newId)) (hq : Q () ⟨h, g, d, t, os⟩) :
    wpAny M A (checkBuiltinCall newId ⟨.ref C :: rest, kw⟩) Q E ⟨h, g, d, t, os⟩ := by
  have inB : (Value.ref C :: bm).contains (.type B) = true := by
    rw [List.contains_cons, hT, F.hasB, Bool.or_true]
  have one := F.noStar
  simp only [checkBuiltinCall, F.newKind, F.newSplit, F.newRow]
  repeat (first
    | refine wpAny_loadPart_at hC ?_
    | (refine wpAny_isSubtype_exc hC ?_; rw [inB])
    | refine wpAny_staticBase_exc hC ?_
    | refine wpAny_madeBy_exc hC ?_
    | simp only [bne_self_eq_false, Bool.false_eq_true, if_false]
    | wp_step)
  exact hq
/-- __new__ keeps the arguments by place alone -/
theorem does_new (F : ExcBaseFacts B newId initId bmB) (hT : ∀ X : String, bm.contains (.type X) = bmB.contains (.type X))
    (hC : h.get? C = some (excClassObj nm q C N bs bm hdct sn sub ab col dd k0 k1 k2 k3 k5 newId)) (few : rest.length ≤ sizeLine)
    (hq : R (.ok (.ret (.ref (h.objs.size + 1)))) ⟨(h.push (W.kdv_tup rest)).push (excO C h.objs.size), g, d, t, os⟩) :
    codeAny (model prog w) A (.builtin newId ⟨.ref C :: rest, kw⟩) R ⟨h, g, d, t, os⟩ := by
  have ends := F.ends
  have inB : (Value.ref C :: bm).contains (.type B) = true := by
    rw [List.contains_cons, hT, F.hasB, Bool.or_true]
  have noA : (Value.ref C :: bm).contains (.type "AttributeError") = false := by
    rw [List.contains_cons, hT, F.noAttr]
    rfl
  have noN : (Value.ref C :: bm).contains (.type "NameError") = false := by
    rw [List.contains_cons, hT, F.noName]
    rfl
  refine codeAny_builtinAt F.entry ?_
  unfold Builtin.«BaseException.__new__»
  refine wpAt_bind ?_
  show wpAt _ _ _ (stack >>= _) _ _ _
  refine wpAt_bind (wpAt_stack fun p below => wpAt_of_wpAny ?_)
  wp_walk
  refine wpAt_of_wpAny ?_
  rw [F.owner]
  repeat (first
    | with_reducible refine wpAny_madeHere_exc F.canon hC ?_
    | with_reducible refine wpAny_loadPart_at hC ?_
    | (with_reducible refine wpAny_isSubtype_exc hC ?_
       first | rw [inB] | rw [noA] | rw [noN])
    | wp_step)
  show R _ _
  rw [Heap.size_push]
  exact hq
/-- the class is called: __new__, then its own __init__, both with all that was passed -/
theorem class_call (F : ExcBaseFacts B newId initId bmB) (hT : ∀ X : String, bm.contains (.type X) = bmB.contains (.type X)) {Q : Fin → Shared → Prop}
    (hC : h.get? C = some (excClassObj nm q C N bs bm hdct sn sub ab col dd k0 k1 k2 k3 k5 newId))
    (hi : W.Looks (model prog w) h (typeLookup (.ref C) "__init__") (some (.ref fI))) (hb : ∀ self, W.Looks (model prog w) h (bindSpecial (.ref fI) self) (.ref fI, [self])) (few : rest.length ≤ sizeLine)
    (hq : codeAny (model prog w) A (.call (.ref fI) ⟨.ref (h.objs.size + 1) :: rest, kw⟩)
      (fun r s' => match r with | .ok (.ret v) => v = .none ∧ Q (.done (.ret (.ref (h.objs.size + 1)))) s' | .ok _ => False | .error e => E e s')
      ⟨(h.push (W.kdv_tup rest)).push (excO C h.objs.size), g, d, t, os⟩) :
    wpAny (model prog w) A (Builtin.«type.__call__» ⟨.ref C :: rest, kw⟩) Q E ⟨h, g, d, t, os⟩ := by
  repeat (first
    | with_reducible refine wpAny_loadPart_at hC ?_
    | with_reducible refine wpAny_madeBy_exc hC ?_
    | wp_step)
  refine codeAny_call_builtin_code (Code.quiet_builtin _ F.quiet) (asks_new F hT hC ?_)
  refine does_new F hT hC few ?_
  show wpAny _ _ _ _ _ _
  have kept : ∀ b o, h.get? b = some o → ((h.push (W.kdv_tup rest)).push (excO C h.objs.size)).get? b = some o := fun b o e =>
    Heap.get?_push_of_some _ (Heap.get?_push_of_some _ e)
  have cls' := kept _ _ hC
  have here : ((h.push (W.kdv_tup rest)).push (excO C h.objs.size)).get? (h.objs.size + 1) = some (excO C h.objs.size) := by
    heap_get
  have inC : (Value.ref C :: bm).contains (.ref C) = true := by
    simp
  have look := hi.keeps kept
  have bind := (hb (.ref (h.objs.size + 1))).keeps kept
  unfold isInstance
  repeat (first
    | with_reducible refine wpAny_loadPart_at here ?_
    | (with_reducible refine wpAny_isSubtype_exc cls' ?_
       rw [inC])
    | wp_step)
  show wpAny _ _ (typeLookup (.ref C) _) _ _ _
  refine look.at ?_
  refine wpAny_holding (wpAny_bind (bind.at ?_))
  refine wpAny_bind (wpAny_call (codeAny_mono hq fun r s' z => ?_))
  rcases r with e | (v | _ | _ | _) <;> first
    | exact z
    | exact z.elim
    | skip
  obtain ⟨rfl, z⟩ := z
  first
    | exact wpAny_pure (wpAny_pure z)
    | (wp_walk
       exact z)
theorem call_err (F : ExcBaseFacts B newId initId bmB) (hT : ∀ X : String, bm.contains (.type X) = bmB.contains (.type X))
    (hC : h.get? C = some (excClassObj nm q C N bs bm hdct sn sub ab col dd k0 k1 k2 k3 k5 newId))
    (hi : W.Looks (model prog w) h (typeLookup (.ref C) "__init__") (some (.ref fI))) (hb : ∀ self, W.Looks (model prog w) h (bindSpecial (.ref fI) self) (.ref fI, [self])) (few : rest.length ≤ sizeLine)
    (hq : codeAny (model prog w) (A.under (.builtin "type.__call__" ⟨.ref C :: rest, kw⟩)) (.call (.ref fI) ⟨.ref (h.objs.size + 1) :: rest, kw⟩) (W.InitBack (h.objs.size + 1) R)
      ⟨(h.push (W.kdv_tup rest)).push (excO C h.objs.size), g, d, t, os⟩) :
    codeAny (model prog w) A (.call (.ref C) ⟨rest, kw⟩) R ⟨h, g, d, t, os⟩ := by
  have f1 := tc_lookup
  have f2 := tc_bind (.ref C)
  have isT : (⟨h, g, d, t, os⟩ : Shared).TypeIs (.ref C) "type" := ⟨_, hC, rfl⟩
  refine codeAny_of_tree ?_
  show wpAny _ _ (callAny (.ref C) _) _ _ _
  repeat (any_goals (first
    | assumption
    | with_reducible refine wpAny_loadPart_at hC ?_
    | wp_step))
  refine ⟨rfl, ?_⟩
  refine codeAny_call_builtin_at (Code.quiet_builtin _ (by decide +kernel)) entry_typeCall (wpAny_check_type_call_sub hC (class_call F hT hC hi hb few ?_))
  refine codeAny_mono hq fun r s' z => ?_
  rcases r with e | (v | _ | _ | _) <;> exact z
end
end ErrV
end PySem
namespace L2
open PySem PySem.Spec PyProof.Rows
/-- what the top has written of an error of its own: its class at C, its one field f, its __init__ at fI -/
structure ErrC (K : PySem.W.Frag) (C fI : Addr) (f : Str) (fd : FuncData) : Prop where
  t : OexC K C
  e : ExcC K C
  x : XfC K C
  no : PySem.W.findIn K (.ref C) f = some none
  iC : PySem.W.findIn K (.ref C) "__init__" = some (some (.ref fI))
  tI : PySem.W.typeIn K (.ref fI) = some (.type "function")
  bp : ∀ (s : Shared) (u v : Value), BindsTo s fd ⟨[u, v], []⟩ [("self", u), (f, v)]
  bk : ∀ (s : Shared) (u v : Value), BindsTo s fd ⟨[u], [(f, v)]⟩ [("self", u), (f, v)]
/-- __init__: self.f = what was passed -/
def spErrI (C : Addr) (f : Str) : Sp := fun vs H Q _ => ∃ (a : Addr) (v : V), vs = [.ref a, v] ∧ H a = some (exo a C none) ∧
  ∀ d, H d = none → d ≠ a → Q .non (upd (upd H d (exd d [(f, v)])) a (exo a C (some d)))
section
variable {P : Program} {w : World} {K : PySem.W.Frag} {mg : Str → Option Value} {base : Heap}
theorem ok_errI {C fI : Addr} {f qual : Str} {st : Stmt} {fd : FuncData} {q1 q2 q3 q4 : Pos} (F : Fun K "__init__" qual st fI fd) (Z : ErrC K C fI f fd) (S : FnScope ["self", f] ["self", f] (defScope st))
    (hb : defBody st = [.Assign [.Attribute (.Name "self" q1) f q2] (.Name f q3) q4]) (hd : (f == ("__debug__" : Str)) = false) (hcd : (f == ("__classdict__" : Str)) = false) :
    FnOk P w K mg base CX0 1 fI fd ["self", f] (spErrI C f) := by
  refine F.ok S (fun vs H Q E h => ?_) (fun cdv A outer s H vs Q E hr h => ?_)
  · obtain ⟨a, v, rfl, _⟩ := h
    rfl
  · obtain ⟨a, v, rfl, ha, k⟩ := h
    rw [hb]
    have v0 : Vis (defScope st) "self" := (S.par "self" (List.mem_cons_self ..)).elim .inl fun z => .inr (.inl z)
    have v1 : Vis (defScope st) f := (S.par f (List.mem_cons_of_mem _ (List.mem_cons_self ..))).elim .inl fun z => .inr (.inl z)
    refine ⟨_, pss_one (ps_ost (pe_var (i := 0) (by rfl) v0) (pe_var (i := 1) (by rfl) v1 hd hcd)), ?_⟩
    exact ⟨_, rfl, _, rfl, a, C, rfl, Z.t, Z.no, .inl ⟨ha, fun d n ne => k d n ne⟩⟩
end
/-- C(e) | C(f=e) -/
def tErr (C : Addr) (f : Str) (ta : TA) : TE := fun σ H Q => ta σ H fun vs H1 => ∃ v, vs = [v] ∧ ∀ a d, H1 a = none → H1 d = none → d ≠ a → Q (.ref a) (upd (upd H1 d (exd d [(f, v)])) a (exo a C (some d)))
theorem upd_back {H : Hp} {a d : Addr} {o u z : HO} (ne : d ≠ a) : upd (upd (upd H a o) d u) a z = upd (upd H d u) a z := by
  funext b
  by_cases hb : b = a
  · rw [hb, upd_same, upd_same]
  · rw [upd_ne hb, upd_ne hb]
    by_cases hd : b = d
    · rw [hd, upd_same, upd_same]
    · rw [upd_ne hd, upd_ne hd, upd_ne hb]
section
variable {X : Cx} {C fI : Addr} {f x : Str} {fd : FuncData} {k : Nat} {p pos : Pos} {e : Expr} {es : List Expr} {ta : TA}
theorem run_err {pins : List (Addr × Obj)} {σ : St} {H : Hp} {s : Shared} {Q : VK} {v : V} {u : Value} {us : List Value} {kw : List (Str × Value)} (Z : ErrC X.K C fI f fd) (Gi : FnOk X.prog X.w X.K X.mg X.base CX0 k fI fd ["self", f] (spErrI C f)) (hr : Room (k + 1) X.A)
    (few : us.length ≤ sizeLine) (hb : ∀ (s : Shared) (z : Value), BindsTo s fd ⟨z :: us, kw⟩ [("self", z), (f, u)]) (I : Inv X pins σ H s) (r : RelV v u)
    (h : ∀ a d, H a = none → H d = none → d ≠ a → Q (.ref a) (upd (upd H d (exd d [(f, v)])) a (exo a C (some d)))) : wpAny (model X.prog X.w) X.A (call (.ref C) us kw) (EP X pins σ Q) X.xe s := by
  obtain ⟨nm, q, N, bs, bm, sn, sub, ab, col, dd, k0, k1, k2, k3, k5, hC, hbm⟩ := Z.t.cls
  obtain ⟨hp, g, dr, tk, os⟩ := s
  have up : hp.objs.size ≤ hp.objs.size + 1 := Nat.le_succ _
  have free : H (hp.objs.size + 1) = none := I.hok.fresh up
  have old : ∀ b o, hp.get? b = some o → ((hp.push (PySem.W.kdv_tup us)).push (PySem.HandSPX.excO C hp.objs.size)).get? b = some o := fun b o z =>
    Heap.get?_push_of_some _ (Heap.get?_push_of_some _ z)
  have new : ((hp.push (PySem.W.kdv_tup us)).push (PySem.HandSPX.excO C hp.objs.size)).get? (hp.objs.size + 1) = some (PySem.HandSPX.excO C hp.objs.size) := by
    heap_get
  have J : Inv X pins σ (upd H (hp.objs.size + 1) (exo (hp.objs.size + 1) C none)) ⟨(hp.push (PySem.W.kdv_tup us)).push (PySem.HandSPX.excO C hp.objs.size), g, dr, tk, os⟩ :=
    I.laid (t' := tk) (a := hp.objs.size + 1) (o := exo (hp.objs.size + 1) C none) (h' := (hp.push (PySem.W.kdv_tup us)).push (PySem.HandSPX.excO C hp.objs.size)) old up (exo_ok new)
  have both : Vals [V.ref (hp.objs.size + 1), v] [Value.ref (hp.objs.size + 1), u] := .cons rfl (.cons r .nil)
  have asked : spErrI C f [V.ref (hp.objs.size + 1), v] (upd H (hp.objs.size + 1) (exo (hp.objs.size + 1) C none)) (fun z H2 => z = .non ∧ Q (.ref (hp.objs.size + 1)) H2) (fun _ _ _ => False) := by
    refine ⟨_, v, rfl, upd_same, fun d hd ne => ⟨rfl, ?_⟩⟩
    rw [upd_back ne]
    exact h _ d free (by rw [upd_ne ne] at hd; exact hd) ne
  refine wpAny_call (PySem.ErrV.call_err PySem.F.excBase_ValueError (fun Y => PySem.HandSPX.refsVE_contains Y bm hbm) (I.kIn _ _ hC) (PySem.W.looks_findIn I.kIn Z.iC) (fun self => PySem.W.bind_fn I.kIn self Z.tI) few
    (codeAny_mono (Gi.run _ X.stack _ _ ⟨Value.ref (hp.objs.size + 1) :: us, kw⟩ [Value.ref (hp.objs.size + 1), u] _ _ (fun _ _ _ => False) (hr.make C us kw) (J.env0.make C us kw) (hb _ _) both asked) fun r s' back => ?_))
  cases r with
  | error er => exact pass0 pins σ _ _ er s' J back
  | ok fl =>
    cases fl with
    | ret z =>
      obtain ⟨y, H2, J2, rz, ey, q2⟩ := J.after back
      subst ey
      exact ⟨rz, ⟨V.ref (hp.objs.size + 1), H2, J2, rfl, q2⟩⟩
    | next => exact False.elim back
    | brk => exact False.elim back
    | cont => exact False.elim back
theorem one_few (u : Value) : [u].length ≤ sizeLine := by
  rw [sizeLine_eq]
  show 1 ≤ 16777216
  decide
theorem pe_err (Z : ErrC X.K C fI f fd) (F : FnOk X.prog X.w X.K X.mg X.base CX0 k fI fd ["self", f] (spErrI C f)) (hr : Room (k + 1) X.A) (hm : X.mg x = some (.ref C)) (ha : PA X [e] ta) (hg : Gl X x := by rfl)
    (hdb : (x == ("__debug__" : Str)) = false := by decide) (he : starEach [e] X.env = (false, eval e X.env) :: starEach [] X.env := by rfl) (hpl : (backTo pos (starEach [] X.env)).any (·.1) = false := by rfl) :
    PE X (.Call (.Name x p) [e] [] pos) (tErr C f ta) := by
  refine ⟨fun pins s σ H Q I h => ?_⟩
  refine wpAny_Call_Name_kw (ld_glob I hg hm ?_ hdb)
  refine PySem.W.callWith_K (h₀ := X.base) I.ok.mod.kin Z.t.kC (thn (ha.run pos pins s σ H _ I h) fun us s1 ⟨vs, H1, I1, r1, v, ev, q1⟩ => ⟨I1.kIn, ?_⟩) he hpl
  subst ev
  cases r1 with
  | cons r0 rn =>
    cases rn
    exact run_err Z F hr (one_few _) (fun s z => Z.bp s z _) I1 r0 q1
theorem pe_errK {nm : Option Str} {kp : Pos} {te : TE} (Z : ErrC X.K C fI f fd) (F : FnOk X.prog X.w X.K X.mg X.base CX0 k fI fd ["self", f] (spErrI C f)) (hr : Room (k + 1) X.A) (hm : X.mg x = some (.ref C)) (ha : PE X e te) (hn : nm = some f) (hg : Gl X x := by rfl)
    (hdb : (x == ("__debug__" : Str)) = false := by decide) (hall : (backToKw pos (keywordEach [⟨nm, e, kp⟩] X.env)).all (·.1.isSome) = true := by rfl)
    (hpl : ((backTo pos (starEach [] X.env)).any (·.1) || (backToKw pos (keywordEach [⟨nm, e, kp⟩] X.env)).any (·.1.isNone)) = false := by rfl) :
    PE X (.Call (.Name x p) [] [⟨nm, e, kp⟩] pos) (tErr C f (tCons te tNil)) := by
  subst hn
  refine ⟨fun pins s σ H Q I h => ?_⟩
  refine wpAny_Call_Name_kw (ld_glob I hg hm ?_ hdb)
  refine PySem.W.callWith_KW0 (h₀ := X.base) I.ok.mod.kin Z.t.kC hall (thn ((pk_cons (nm := some f) (kpos := kp) ha pk_nil).run pos pins s σ H _ I h) fun us s1 ⟨vs, H1, I1, r1, v, ev, q1⟩ => ⟨I1.kIn, ?_⟩) hpl
  subst ev
  cases r1 with
  | cons r0 rn =>
    cases rn
    exact run_err Z F hr (by show 0 ≤ sizeLine; exact Nat.zero_le _) (fun s z => Z.bk s z _) I1 r0 q1
/-- e.f -/
def tErrF (C : Addr) (f : Str) (te : TE) : TE := fun σ H Q => te σ H fun x H1 => ∃ (a d : Addr) (fs : List (Str × V)) (v : V), x = .ref a ∧ H1 a = some (exo a C (some d)) ∧ H1 d = some (exd d fs) ∧ fs.lookup f = some v ∧ Q v H1
theorem pe_errF {te : TE} {D : Addr} (T : XfC X.K D) (hno : PySem.W.findIn X.K (.ref D) f = some none) (he : PE X e te) (hb : attributeBase e f X.env (eval e X.env) = eval e X.env := by rfl) : PE X (.Attribute e f pos) (tErrF D f te) := by
  refine ⟨fun pins s σ H Q I h => ?_⟩
  refine attr_of hb (thn (he.run pins s σ H _ I h) fun u s1 ⟨x, H1, I1, rx, a, d, fs, v, ex, ea, ed, l, q⟩ => ?_)
  subst ex
  obtain rfl : u = Value.ref a := rx
  obtain ⟨t1, ho⟩ := exo_at I1.hok ea
  obtain ⟨mA, hns, hr⟩ := exd_at I1.hok ed
  obtain ⟨od, hod, hl⟩ := lookIn_ns hns
  obtain ⟨u, hu, ru⟩ := RelO.some_of (v := v) (o := mA f) (by rw [← l]; exact hr f)
  have J : PySem.W.InstAt s1.heap a _ D (some od) := ⟨ho, rfl, rfl, hod⟩
  exact HandSPX.exc_get I1.kIn J T.ga T.gg T.exC (PySem.W.findObj_own T.hdC hno rfl (by rw [hl, hu])) (handed_of ru) ⟨v, H1, I1.tok _, ru, q⟩
/-- C(), an error without own __init__ -/
theorem pe_exc0 {bmB : List Value} {B newId initId : String} (F : ExcBaseFacts B newId initId bmB) (q : PySem.W.excIn X.K C bmB newId = true) (gC : X.mg x = some (.ref C)) (kC : PySem.W.keepIn X.K (.ref C) = true) (hg : Gl X x := by rfl)
    (hdb : (x == ("__debug__" : Str)) = false := by decide) : PE X (.Call (.Name x p) [] [] pos) (fun σ H Q => ∀ a, H a = none → Q (.ref a) (upd H a (ExO (.ref C) a))) := by
  refine ⟨fun pins s σ H Q I h => ?_⟩
  refine wpAny_Call_Name_kw (ld_glob I hg gC ?_ hdb)
  refine PySem.W.callWith_K0 I.kIn kC ?_
  show wpAny _ _ (call (.ref C) []) _ _ _
  obtain ⟨bm, N, nm, qn, bs, hdct, sn, sub, ab, col, dd, k0, k1, k2, k3, k5, mN, hC, hN, hni, T⟩ := exc_obj I.kIn q
  refine wpAny_call_exc_subT F T hC hN hni (fun h' a hm => ?_) (by show 0 ≤ sizeLine; exact Nat.zero_le _)
  have hn : H a = none := I.hok.gone hm.new
  obtain ⟨t, ht, _, _⟩ := hm.there
  exact ⟨.ref a, upd H a (ExO (.ref C) a), I.laidN hm.keeps hm.new hn (exO_ok ht ⟨rfl, rfl⟩ rfl rfl rfl (show 4 < 6 by decide)), rfl, h a hn⟩
end
end L2
namespace L2
open PySem PySem.Spec PyProof.Rows LamX
theorem clo_nil {cells : List (Str × Addr)} : ∀ {names : List (Str × NameKind)} {acc : List (Str × Addr)}, (∀ y ∈ names, y.2 ≠ .free) → cloFrom cells names acc = acc
  | [], _, _ => rfl
  | (n, k) :: r, acc, h => by
    have hk : (k == NameKind.free) = false := by
      have z := h (n, k) (List.mem_cons_self ..)
      cases k <;> first | rfl | exact absurd rfl z
    unfold cloFrom
    rw [if_neg (by rw [hk]; exact Bool.false_ne_true)]
    exact clo_nil fun y hy => h y (List.mem_cons_of_mem _ hy)
/-- the body of a lambda without captured names, q its name -/
abbrev lamO (q : Str) (params : Arguments) (body : Expr) (scope : Scope) (pm : Value) (c' : Addr) (ctv : Value) : Obj := PySem.W.kla_obj "<lambda>" q params body scope [] pm c' ctv
/-- a lambda stands at f, its code object at c' -/
def LamAt (f c' : Addr) (q : Str) (params : Arguments) (body : Expr) (scope : Scope) : HO := .ext fun h => ∃ pm ctv : Value, h.get? f = some (lamO q params body scope pm c' ctv)
theorem lamAt_ok {P : Program} {w : World} {H : Hp} {h : Heap} {f c' : Addr} {q : Str} {params : Arguments} {body : Expr} {scope : Scope} {pm ctv : Value} (e : h.get? f = some (lamO q params body scope pm c' ctv)) : ObjOk P w H h f (LamAt f c' q params body scope) :=
  ⟨⟨pm, ctv, e⟩, ⟨_, e⟩, fun _ _ ⟨a, b, z⟩ k => ⟨a, b, k _ z⟩⟩
theorem lamAt_get {P : Program} {w : World} {H : Hp} {h : Heap} {f c' : Addr} {q : Str} {params : Arguments} {body : Expr} {scope : Scope} (ok : HOk P w H h) (e : H f = some (LamAt f c' q params body scope)) : ∃ pm ctv : Value, h.get? f = some (lamO q params body scope pm c' ctv) := by
  have z : ObjOk P w H h f (.ext fun h => ∃ pm ctv : Value, h.get? f = some (lamO q params body scope pm c' ctv)) := ok f _ e
  exact z.1
section
variable {X : Cx} {pins : List (Addr × Obj)} {σ : L2.St} {H : Hp} {s : Shared}
/-- a lambda without captured names is made, and tracked -/
theorem lam_laid {T : List (Addr × Str)} {c P : Addr} {params : Arguments} {body : Expr} {scope : Scope} {pos : Pos} {E : Value → Shared → Prop} {Q : Value → Shared → Prop} (I : Inv X pins σ H s) (TB : TabB X.base X.mg c P) (hcode : X.env.code = .ref c)
    (hm : (P, X.env.qual ++ "<lambda>") ∈ T) (hu : ∀ p ∈ T, p.1 = P → p.2 = X.env.qual ++ "<lambda>") (hT : Tabs T H) (hdef : defaultsOf params X.env = ([], [])) (hnf : ∀ y ∈ scope.names, y.2 ≠ .free)
    (h : ∀ (f c' : Addr) (H1 : Hp) (s' : Shared), Inv X pins σ (upd H1 f (LamAt f c' (X.env.qual ++ "<lambda>") params body scope)) s' → ExtN H H1 → Tabs T H1 → H1 f = none → H1 c' = some (CodeO c' (X.env.qual ++ "<lambda>")) → Q (.ref f) s') :
    wpAny (model X.prog X.w) X.A (eval (.Lambda params body scope pos) X.env) Q E s := by
  obtain ⟨ps, hP, ht, ha⟩ := hT _ hm
  have hclo : cloFrom X.env.cells scope.names [] = [] := clo_nil hnf
  have okc : closureFor scope X.env = pure ([] : List (Str × Addr)) := by
    have z := closure_ok (env := X.env) (scope := scope) fun y hy e => absurd e (hnf y hy)
    rw [hclo] at z
    exact z
  refine PySem.W.kla_eval hdef ?_
  have bP : s.heap.BuiltinsAt X.mg P := TB.bm.keeps I.bk
  have hP' : s.heap.get? P = some { cls := .none, data := .fields ps } := I.hok P _ hP
  have lay : ∀ {H1 : Hp} {h' : Heap} {c' : Addr} {pm ctv : Value} {tk : Nat}, Inv X pins σ H1 { s with heap := h', toks := tk } →
      Inv X pins σ (upd H1 h'.objs.size (LamAt h'.objs.size c' (X.env.qual ++ "<lambda>") params body scope)) { s with heap := h'.push (lamO (X.env.qual ++ "<lambda>") params body scope pm c' ctv), toks := tk } := fun {H1 h' c' pm ctv tk} J =>
    J.laid (t' := tk) (a := h'.objs.size) (h' := h'.push (lamO (X.env.qual ++ "<lambda>") params body scope pm c' ctv)) (fun b o e => Heap.get?_push_of_some _ e) (Nat.le_refl _) (lamAt_ok (Heap.get?_push_size _ rfl))
  cases hc : codeAmong pos ps.toList with
  | none =>
    refine PySem.W.kla_makeFunction (mg := X.mg) (c := c) (P := P) (ps := ps) okc I.ok.glob (I.mod.glob.keeps I.bk) hcode (TB.code.keeps I.bk) hP' ht hc TB.gP bP fun c' ctv h' tk hx hge hlt hrec htb => ?_
    obtain ⟨c2, oc, vs, t, e2, hoc, hd, hv⟩ := hrec
    cases e2
    have nC : H c' = none := I.hok.fresh hge
    have I1 := inv_table (q := X.env.qual ++ "<lambda>") (t' := tk) (more := #[rawInt pos.line, rawInt pos.col, .ref c']) (h' := h') I hP hx htb hge ⟨oc, vs, t, hoc, hd, hv⟩
    have hE : ExtN H (upd (upd H P (.tbl (ps ++ #[rawInt pos.line, rawInt pos.col, .ref c']))) c' (CodeO c' (X.env.qual ++ "<lambda>"))) := fun b o e n => by
      rw [upd_ne (ne_of_none e nC), upd_ne (fun z => n ps (Option.some.inj (e.symm.trans (by rw [z]; exact hP))))]
      exact e
    have eL : (ps ++ #[rawInt pos.line, rawInt pos.col, .ref c']).toList = ps.toList ++ [rawInt pos.line, rawInt pos.col, .ref c'] := by simp
    refine h h'.objs.size c' _ _ (lay I1) hE (fun p hp => ?_) ?_ upd_same
    · by_cases hb : p.1 = P
      · rw [hu p hp hb, hb]
        refine ⟨_, by rw [upd_ne (ne_of_none hP nC), upd_same], by rw [eL]; exact PySem.TriplesOk_snoc _ _ _ _ ht, fun p' cv hcv => ?_⟩
        rw [eL] at hcv
        rcases among_app _ ht hcv with z | z
        · obtain ⟨c0, e1, e2⟩ := ha p' cv z
          exact ⟨c0, e1, hE _ _ e2 codeO_ne⟩
        · exact ⟨c', z, upd_same⟩
      · obtain ⟨ps', a1, a2, a3⟩ := hT p hp
        refine ⟨ps', by rw [upd_ne (ne_of_none a1 nC), upd_ne hb]; exact a1, a2, fun p' cv hcv => ?_⟩
        obtain ⟨c0, e1, e2⟩ := a3 p' cv hcv
        exact ⟨c0, e1, hE _ _ e2 codeO_ne⟩
    · have z := I1.hok.fresh (Nat.le_refl h'.objs.size)
      exact z
  | some cv =>
    obtain ⟨c', e, hco⟩ := ha pos cv hc
    subst e
    refine PySem.W.kla_makeFunctionHit (mg := X.mg) (c := c) (P := P) (ps := ps) okc I.ok.glob (I.mod.glob.keeps I.bk) hcode (TB.code.keeps I.bk) hP' ht hc bP fun ctv h' tk hx hsz => ?_
    have I1 : Inv X pins σ H { s with heap := h', toks := tk } := I.kept fun b o e => hx b o e
    exact h h'.objs.size c' H _ (lay I1) (ExtN.refl H) hT (I1.hok.fresh (Nat.le_refl h'.objs.size)) hco
/-- lambda ..: .. as a value -/
theorem pe_lamV {T : List (Addr × Str)} {c P : Addr} {params : Arguments} {body : Expr} {scope : Scope} {pos : Pos} (TB : TabB X.base X.mg c P) (hcode : X.env.code = .ref c)
    (hm : (P, X.env.qual ++ "<lambda>") ∈ T) (hu : ∀ p ∈ T, p.1 = P → p.2 = X.env.qual ++ "<lambda>") (hnf : ∀ y ∈ scope.names, y.2 ≠ .free) (hdef : defaultsOf params X.env = ([], []) := by rfl) :
    PE X (.Lambda params body scope pos) (fun σ H Q => Tabs T H ∧ ∀ f c' H1, ExtN H H1 → Tabs T H1 → H1 f = none → H1 c' = some (CodeO c' (X.env.qual ++ "<lambda>")) → Q (.ref f) (upd H1 f (LamAt f c' (X.env.qual ++ "<lambda>") params body scope))) :=
  ⟨fun pins s σ H Q I h => lam_laid I TB hcode hm hu h.1 hdef hnf fun f c' H1 s' J e1 e2 e3 e4 => ⟨.ref f, _, J, rfl, h.2 f c' H1 e1 e2 e3 e4⟩⟩
end
/-- x(e), x a local name that holds such a lambda of one parameter; tb: what its body reads -/
def tLamC (i : Nat) (y : Str) (q : Str) (params : Arguments) (body : Expr) (scope : Scope) (tb : TE) (ta : TA) : TE := fun σ H Q => ∃ f c', σ[i]? = some (some (.ref f)) ∧ H f = some (LamAt f c' q params body scope) ∧ ta σ H fun vs H1 => ∃ v : V, vs = [v] ∧ H1 f = some (LamAt f c' q params body scope) ∧ H1 c' = some (CodeO c' q) ∧ tb [some v] H1 Q
section
variable {X : Cx} {i k : Nat} {x y q : Str} {params : Arguments} {body : Expr} {scope : Scope} {tb : TE} {ta : TA} {e : Expr} {p pos : Pos}
theorem pe_lamC (S : FnScope [y] [y] scope) (hr : Room (k + 1) X.A) (hN : X.N[i]? = some x) (hv : Vis X.env.scope x)
    (hbind : ∀ (pm : Value) (c' : Addr) (ctv u : Value), bindArgs (PySem.W.kla_fn "<lambda>" q params body scope [] pm (.ref c') ctv) ⟨[u], []⟩ = pure [(y, u)])
    (hbody : ∀ (A : Around) (outer : List Env) (s : Shared) (H : Hp) (f : Addr) (cd : Value), Room k (A.deeper (envOfC q scope s.heap.objs.size f cd)) → PE (cxOf CX0 X.prog X.w X.K X.mg X.base [y] q scope f cd A outer s H E0) body tb)
    (ha : PA X [e] ta) (hd : (x == ("__debug__" : Str)) = false := by decide) (hcd : (x == ("__classdict__" : Str)) = false := by decide)
    (he : starEach [e] X.env = (false, eval e X.env) :: starEach [] X.env := by rfl) (hpl : (backTo pos (starEach [] X.env)).any (·.1) = false := by rfl) :
    PE X (.Call (.Name x p) [e] [] pos) (tLamC i y q params body scope tb ta) := by
  refine ⟨fun pins s σ H Q I h => ?_⟩
  obtain ⟨f, c', hs, hf0, ht⟩ := h
  refine wpAny_Call_Name_kw (thn ((pe_var (pos := p) hN hv hd hcd).run pins s σ H (fun v H1 => v = .ref f ∧ H1 = H) I ⟨.ref f, hs, rfl, rfl⟩) fun u s1 ⟨v, H1, I1, r1, q1⟩ => ?_)
  obtain ⟨ev, eH⟩ := q1
  subst ev
  subst eH
  obtain rfl : u = Value.ref f := r1
  obtain ⟨pm0, ctv0, o0⟩ := lamAt_get I1.hok hf0
  refine PySem.W.callWith_F ⟨_, _, _, _, o0⟩ (thn (ha.run pos pins s1 σ H1 _ I1 ht) fun us s2 ⟨vs, H2, I2, r2, v, ew, hf, hc, q2⟩ => ?_) he hpl
  subst ew
  obtain ⟨pm, ctv, o⟩ := lamAt_get I2.hok hf
  refine ⟨⟨_, _, _, _, o⟩, ?_⟩
  cases r2 with
  | @cons _ u0 _ ur r0 rn =>
    cases rn
    obtain ⟨⟨oc, vs, t, hoc, hdc, hvc⟩, _, _⟩ := I2.hok c' _ hc
    have hkind : ∀ z ∈ [y].zip [u0], scope.names.lookup z.1 = some .local ∨ (scope.names.lookup z.1 = some .cell ∧ ((cellsFrom (s2.heap.objs.size + 1) scope.names []).lookup z.1).isSome = true) := fun ⟨n, w'⟩ hz => by
      rcases S.par n (List.of_mem_zip hz).1 with z | z
      · exact .inl z
      · exact .inr ⟨z, PySem.W.cellsFrom_some _ _ _ (.inl z)⟩
    have rc : codeAny (model X.prog X.w) X.A (.call (.ref f) ⟨[u0], []⟩) (CR CX0 X.stack X.prog X.w H2 s2 Q E0) s2 := by
      refine PySem.W.kla_callFunE hr.depth o rfl S.co S.gen rfl ⟨c', oc, vs, t, rfl, hoc, hdc, hvc⟩ ?_
      rw [hbind]
      refine wpAny_pure (wpAny_newFunctionEnv_cells S.kind hkind fun env he s3 x => ?_)
      subst he
      refine ⟨I2.nolimit.keeps x.toInCall.keep, ?_⟩
      have J : Inv (cxOf CX0 X.prog X.w X.K X.mg X.base [y] q scope f (.ref c') X.A X.stack s2 H2 E0) [] (start [y] [v]) H2 s3 := inv_start S hr.hd I2.env0 rfl (.cons r0 .nil) x
      refine PySem.W.kla_codeExpr (wpAny_mono ((hbody X.A X.stack s2 H2 f (.ref c') (hr.deeper _)).run [] s3 (start [y] [v]) H2 Q J q2) (fun z s' hq => ?_) fun e s' hq => hq)
      obtain ⟨v', H', J', rv, q⟩ := hq
      exact ⟨v', H', J'.os, J'.bare, J'.base, J'.hok, rv, q⟩
    refine wpAny_call (codeAny_mono rc fun r s' back => ?_)
    cases r with
    | error er => exact pass0 pins σ _ _ er s' I2 back
    | ok fl =>
      cases fl with
      | ret z => exact I2.after back
      | next => exact False.elim back
      | brk => exact False.elim back
      | cont => exact False.elim back
end
end L2
namespace L2
open PySem PySem.Spec PyProof.Rows
section
variable {X : Cx} {C fI : Addr} {f x : Str} {fd : FuncData} {k : Nat} {p pos : Pos} {e : Expr} {ta : TA}
/-- C(e), raised: an own error with the one field f -/
def tMkE (C : Addr) (f : Str) (ta : TA) : St → Hp → XK → Prop := fun σ H Q => ta σ H fun vs H1 => ∃ v, vs = [v] ∧ ∀ d, H1 d = none → Q (.ref C) (some d) (upd H1 d (.xd [(f, v)]))
theorem del_made {H : Hp} {a d : Addr} {o u z w : HO} (ha : H a = none) (ne : d ≠ a) : upd (del (upd (upd (upd H a o) d u) a z) a) d w = upd H d w := by
  funext b
  by_cases hd : b = d
  · rw [hd, upd_same, upd_same]
  · rw [upd_ne hd, upd_ne hd]
    by_cases hb : b = a
    · rw [hb, del_same, ha]
    · rw [del_ne hb, upd_ne hb, upd_ne hd, upd_ne hb]
theorem pmk_err (Z : ErrC X.K C fI f fd) (G : FnOk X.prog X.w X.K X.mg X.base CX0 k fI fd ["self", f] (spErrI C f)) (hr : Room (k + 1) X.A) (hm : X.mg x = some (.ref C)) (ha : PA X [e] ta) (hg : Gl X x := by rfl)
    (hdb : (x == ("__debug__" : Str)) = false := by decide) (he : starEach [e] X.env = (false, eval e X.env) :: starEach [] X.env := by rfl) (hpl : (backTo pos (starEach [] X.env)).any (·.1) = false := by rfl) :
    PMk X (.Call (.Name x p) [e] [] pos) (tMkE C f ta) := by
  intro pins s σ H Q I h
  refine wpAny_Call_Name_kw (ld_glob I hg hm ?_ hdb)
  refine PySem.W.callWith_K (h₀ := X.base) I.ok.mod.kin Z.t.kC (thn (ha.run pos pins s σ H _ I h) fun us s1 ⟨vs, H1, I1, r1, v, ev, q1⟩ => ⟨I1.kIn, ?_⟩) he hpl
  subst ev
  cases r1 with
  | @cons _ u _ ur r0 rn =>
    cases rn
    obtain ⟨nm, q, N, bs, bm, sn, sub, ab, col, dd, k0, k1, k2, k3, k5, hC, hbm⟩ := Z.t.cls
    obtain ⟨hp, g, dr, tk, os⟩ := s1
    have up : hp.objs.size ≤ hp.objs.size + 1 := Nat.le_succ _
    have free : H1 (hp.objs.size + 1) = none := I1.hok.fresh up
    have old : ∀ b o, hp.get? b = some o → ((hp.push (PySem.W.kdv_tup [u])).push (PySem.HandSPX.excO C hp.objs.size)).get? b = some o := fun b o z =>
      Heap.get?_push_of_some _ (Heap.get?_push_of_some _ z)
    have new : ((hp.push (PySem.W.kdv_tup [u])).push (PySem.HandSPX.excO C hp.objs.size)).get? (hp.objs.size + 1) = some (PySem.HandSPX.excO C hp.objs.size) := by
      heap_get
    have J : Inv X pins σ (upd H1 (hp.objs.size + 1) (exo (hp.objs.size + 1) C none)) ⟨(hp.push (PySem.W.kdv_tup [u])).push (PySem.HandSPX.excO C hp.objs.size), g, dr, tk, os⟩ :=
      I1.laid (t' := tk) (a := hp.objs.size + 1) (o := exo (hp.objs.size + 1) C none) (h' := (hp.push (PySem.W.kdv_tup [u])).push (PySem.HandSPX.excO C hp.objs.size)) old up (exo_ok new)
    have both : Vals [V.ref (hp.objs.size + 1), v] [Value.ref (hp.objs.size + 1), u] := .cons rfl (.cons r0 .nil)
    have asked : spErrI C f [V.ref (hp.objs.size + 1), v] (upd H1 (hp.objs.size + 1) (exo (hp.objs.size + 1) C none))
        (fun z H2 => z = .non ∧ ∃ d, d ≠ hp.objs.size + 1 ∧ H1 d = none ∧ H2 = upd (upd (upd H1 (hp.objs.size + 1) (exo (hp.objs.size + 1) C none)) d (exd d [(f, v)])) (hp.objs.size + 1) (exo (hp.objs.size + 1) C (some d))) (fun _ _ _ => False) :=
      ⟨_, v, rfl, upd_same, fun d hd ne => ⟨rfl, d, ne, by rw [upd_ne ne] at hd; exact hd, rfl⟩⟩
    refine wpAny_call (PySem.ErrV.call_err PySem.F.excBase_ValueError (fun Y => PySem.HandSPX.refsVE_contains Y bm hbm) (I1.kIn _ _ hC) (PySem.W.looks_findIn I1.kIn Z.iC) (fun self => PySem.W.bind_fn I1.kIn self Z.tI) (one_few _)
      (codeAny_mono (G.run _ X.stack _ _ ⟨[Value.ref (hp.objs.size + 1), u], []⟩ [Value.ref (hp.objs.size + 1), u] _ _ (fun _ _ _ => False) (hr.make C [u] []) (J.env0.make C [u] []) (Z.bp _ _ _) both asked) fun r s' back => ?_))
    cases r with
    | error er => exact pass0 pins σ _ _ er s' J back
    | ok fl =>
      cases fl with
      | ret z =>
        obtain ⟨y, H2, os2, bare2, un2, hok2, rz, ey, d, ne, hd, eH⟩ := back
        subst ey
        subst eH
        obtain ⟨h2, g2, d2, t2, os'⟩ := s'
        refine ⟨rz, mk_end (raises_own Z.t.exC Z.t.tyC) I1 up old un2 hok2 os2 bare2 upd_same (by rw [upd_ne ne]; exact upd_same) hd ?_⟩
        rw [del_made free ne]
        exact q1 d hd
      | next => exact False.elim back
      | brk => exact False.elim back
      | cont => exact False.elim back
/-- C(), raised: an own error without own __init__ -/
theorem pmk_exc0 {bmB : List Value} {B newId initId : String} (F : ExcBaseFacts B newId initId bmB) (q : PySem.W.excIn X.K C bmB newId = true) (gC : X.mg x = some (.ref C)) (kC : PySem.W.keepIn X.K (.ref C) = true) (r : Raises X (.ref C)) (hg : Gl X x := by rfl)
    (hdb : (x == ("__debug__" : Str)) = false := by decide) : PMk X (.Call (.Name x p) [] [] pos) (fun _ H Q => Q (.ref C) none H) := by
  intro pins s σ H Q I h
  refine wpAny_Call_Name_kw (ld_glob I hg gC ?_ hdb)
  refine PySem.W.callWith_K0 I.kIn kC ?_
  show wpAny _ _ (call (.ref C) []) _ _ _
  obtain ⟨bm, N, nm, qn, bs, hdct, sn, sub, ab, col, dd, k0, k1, k2, k3, k5, mN, hC, hN, hni, T⟩ := exc_obj I.kIn q
  refine wpAny_call_exc_subT F T hC hN hni (fun h' e hm => ?_) (by show 0 ≤ sizeLine; exact Nat.zero_le _)
  exact mk_of I hm r h (I.hok.gone hm.new)
end
end L2
namespace TW
open PySem PySem.Spec PyProof.Rows L2
def top (i : Nat) : Stmt := PySem.Challenge.pw_turnways_k19_long_runs.main.body.getD i (.Pass ⟨0, 0, 0, 0⟩)
/-- names that are still the built-ins' -/
structure Blt (mg : Str → Option Value) : Prop where
  len : mg "len" = none
  int : mg "int" = none
  bool : mg "bool" = none
  str : mg "str" = none
  list : mg "list" = none
  tuple : mg "tuple" = none
  dict : mg "dict" = none
  isi : mg "isinstance" = none
  all : mg "all" = none
  zip : mg "zip" = none
  range : mg "range" = none
  sorted : mg "sorted" = none
  enumerate : mg "enumerate" = none
section
variable {K : PySem.W.Frag} {H H' : Hp}
theorem seqT_same {a : Addr} {xs : List V} (e : Same H H') (h : SqT K H a xs) : SqT K H' a xs := by
  rcases h with (h | ⟨o, h⟩) | h
  · exact .inl (.inl (e _ _ h))
  · exact .inl (.inr ⟨o, e _ _ h⟩)
  · exact .inr h
theorem same_new {p : Addr} {o : HO} (hp : H p = none) : Same H (upd H p o) := fun b u e => by
  rw [upd_ne (ne_of_none e hp)]
  exact e
theorem tyx_list {a : Addr} {xs : List V} (h : SqL K H a xs) : TyX K H (.ref a) (.type "list") := by
  rcases h with (h | ⟨o, h⟩) | ⟨o, its, n, h, c, _⟩
  · exact .base (.lst h)
  · exact .base (.frz h)
  · exact .kList h c
theorem tyx_tup {a : Addr} {xs : List V} (h : SqT K H a xs) : TyX K H (.ref a) (.type "tuple") := by
  rcases h with (h | ⟨o, h⟩) | ⟨o, its, n, h, c, _⟩
  · exact .base (.tup h)
  · exact .fTuple h
  · exact .kTuple h c
def kitAB (T : String) : List String → Option Bool
  | [] => some false
  | c :: r => match kitB T c with
    | some true => some true
    | some false => kitAB T r
    | none => none
theorem kitA {T : String} {cs : List String} {b : Bool} (h : kitAB T cs = some b) : PySem.W.kitAny K (.type T) (cs.map Value.type) = some b := by
  induction cs with
  | nil => exact h
  | cons c r ih =>
    have e : PySem.W.kitOne K (.type T) (.type c) = kitB T c := rfl
    show (match PySem.W.kitOne K (.type T) (.type c) with | some true => some true | some false => PySem.W.kitAny K (.type T) (r.map Value.type) | none => none) = some b
    rw [e]
    unfold kitAB at h
    cases q : kitB T c with
    | none =>
      rw [q] at h
      cases h
    | some z =>
      rw [q] at h
      cases z with
      | true => exact h
      | false => exact ih h
theorem iteD {c A B : Prop} [Decidable c] (hc : c) (h : A) : if decide c = true then A else B := by
  rw [decide_eq_true hc]
  exact iteT h
theorem two_sz : 2 ≤ sizeLine := by
  rw [sizeLine_eq]
  decide
/-- whether x is a value, nested at most n deep -/
inductive Vn (K : PySem.W.Frag) (H : Hp) : Nat → V → Bool → Prop where
  | non (n : Nat) : Vn K H n .non true
  | bl (n : Nat) (b : Bool) : Vn K H n (.bl b) true
  | int (n : Nat) (i : Int) : Vn K H n (.int i) true
  | str (n : Nat) (x : Str) : Vn K H n (.str x) true
  | tup {n : Nat} {a : Addr} {xs : List V} {bs : List Bool} (h : SqT K H a xs) (hl : xs.length = bs.length) (few : xs.length ≤ 1000) (each : ∀ (i : Nat) (x : V) (b : Bool), xs[i]? = some x → bs[i]? = some b → Vn K H n x b) : Vn K H (n + 1) (.ref a) (bs.all id)
  | other (n : Nat) {a : Addr} {T : String} (ty : ∀ H', Same H H' → TyX K H' (.ref a) (.type T)) (k1 : kitB T "tuple" = some false) (k2 : kitAB T ["int", "str"] = some false) : Vn K H n (.ref a) false
theorem Vn.same {n : Nat} {x : V} {b : Bool} (e : Same H H') (h : Vn K H n x b) : Vn K H' n x b := by
  induction h with
  | non n => exact .non n
  | bl n b => exact .bl n b
  | int n i => exact .int n i
  | str n x => exact .str n x
  | tup h hl few _ ih => exact .tup (seqT_same e h) hl few fun i x b h1 h2 => ih i x b h1 h2
  | other n ty k1 k2 => exact .other n (fun H'' z => ty H'' (e.trans z)) k1 k2
end
def spIsV (K : PySem.W.Frag) (n : Nat) : Sp := fun vs H Q _ => ∃ (x : V) (b : Bool), vs = [x] ∧ Vn K H n x b ∧ ∀ H', Same H H' → Q (.bl b) H'
abbrev sIsV : Stmt := top 17
section
variable {P : Program} {w : World} {K : PySem.W.Frag} {mg : Str → Option Value} {base : Heap}
theorem fn_never {CX : CXT} {f : Addr} {fd : FuncData} {ps : List Str} {k : Nat} : FnOk P w K mg base CX k f fd ps (fun _ _ _ _ => False) := ⟨fun _ _ _ _ h => h.elim, fun _ _ _ _ _ _ _ _ _ _ _ _ _ h => h.elim⟩
theorem scIsV : FnScope ["given", "inner"] ["given"] (defScope sIsV) := ⟨rfl, rfl, rfl, by decide +kernel, rfl, by decide +kernel, by decide +kernel⟩
theorem isV_body {f : Addr} {fd : FuncData} {n k : Nat} {spR : Sp} (F : Fun K "is_value" "is_value" sIsV f fd) (B : Blt mg) (hm : mg "is_value" = some (.ref f)) (bS : Binds K fd ["given"] [])
    (R : FnOk P w K mg base CX0 k f fd ["given"] spR) (hR : ∀ m, n = m + 1 → spR = spIsV K m) : FnOk P w K mg base CX0 (k + 1) f fd ["given"] (spIsV K n) := by
  refine F.ok scIsV (fun vs H Q E h => ?_) (fun cdv A outer s H vs Q E hr h => ?_)
  · obtain ⟨x, b, rfl, _⟩ := h
    rfl
  · obtain ⟨x, b, rfl, hV, kQ⟩ := h
    refine ⟨_, pss_cons (ps_if (pt_val (pe_callB call_isi (by rfl) B.isi (by decide +kernel) (pa_cons (pv 0) (pa_cons (pe_bltn (v := .ty "tuple") (by rfl) B.tuple (by decide +kernel) rfl) pa_nil))))
        (pss_one (ps_ret (pe_callB (cr_all rfl) (by rfl) B.all (by decide +kernel) (pa_cons
          (pe_lc (own := [("inner", 1)]) (g := gName 1) rfl scIsV.nd (pi_tup (pv 0)) (blkOk_by (N := ["given", "inner"]) (sc := defScope sIsV) (by decide +kernel))
            (fun _ _ _ _ _ => pg_name (i := 1) scIsV.nd rfl (Or.inl rfl)) (fun _ _ _ _ _ => pts_nil) (fun _ _ _ _ _ => pe_call R hr rfl hm F.kp bS .nil pass0 (pa_cons (pv 1) pa_nil))) pa_nil)))) pss_nil)
      (pss_one (ps_ret (pe_or (pe_cmpR op_isN (pv 0) pe_non (nomark _)) (pe_one (pe_callB call_isiT (by rfl) B.isi (by decide +kernel) (pa_cons (pv 0) (pa_cons (pe_tup (pa_cons (pe_bltn (v := .ty "int") (by rfl) B.int (by decide +kernel) rfl) (pa_cons (pe_bltn (v := .ty "str") (by rfl) B.str (by decide +kernel) rfl) pa_nil))) pa_nil))))))), ?_⟩
    cases hV with
    | non =>
      refine ⟨_, rfl, _, _, _, _, _, rfl, .ty _, .base .non, kit_ty (r := false) (by decide +kernel), _, rfl, ?_⟩
      refine iteF ?_
      refine ⟨_, rfl, rfl, _, rfl, ?_⟩
      exact iteD rfl (kQ _ (Same.refl _))
    | bl _ z =>
      refine ⟨_, rfl, _, _, _, _, _, rfl, .ty _, .base (.bl z), kit_ty (r := false) (by decide +kernel), _, rfl, ?_⟩
      refine iteF ?_
      refine ⟨_, rfl, rfl, _, rfl, ?_⟩
      rw [decide_eq_false (by intro z; cases z)]
      refine iteF ?_
      refine ⟨_, rfl, two_sz, fun p hp => ?_⟩
      exact ⟨_, p, _, _, [.type "int", .type "str"], _, rfl, upd_same, .cons (.ty _) (.cons (.ty _) .nil), .base (.bl z), kitA (cs := ["int", "str"]) (b := true) (by decide +kernel), kQ _ (same_new hp)⟩
    | int _ i =>
      refine ⟨_, rfl, _, _, _, _, _, rfl, .ty _, .base (.int i), kit_ty (r := false) (by decide +kernel), _, rfl, ?_⟩
      refine iteF ?_
      refine ⟨_, rfl, rfl, _, rfl, ?_⟩
      rw [decide_eq_false (by intro z; cases z)]
      refine iteF ?_
      refine ⟨_, rfl, two_sz, fun p hp => ?_⟩
      exact ⟨_, p, _, _, [.type "int", .type "str"], _, rfl, upd_same, .cons (.ty _) (.cons (.ty _) .nil), .base (.int i), kitA (cs := ["int", "str"]) (b := true) (by decide +kernel), kQ _ (same_new hp)⟩
    | str _ z =>
      refine ⟨_, rfl, _, _, _, _, _, rfl, .ty _, .base (.str z), kit_ty (r := false) (by decide +kernel), _, rfl, ?_⟩
      refine iteF ?_
      refine ⟨_, rfl, rfl, _, rfl, ?_⟩
      rw [decide_eq_false (by intro z; cases z)]
      refine iteF ?_
      refine ⟨_, rfl, two_sz, fun p hp => ?_⟩
      exact ⟨_, p, _, _, [.type "int", .type "str"], _, rfl, upd_same, .cons (.ty _) (.cons (.ty _) .nil), .base (.str z), kitA (cs := ["int", "str"]) (b := true) (by decide +kernel), kQ _ (same_new hp)⟩
    | other _ ty k1 k2 =>
      refine ⟨_, rfl, _, _, _, _, _, rfl, .ty _, ty _ (Same.refl _), kit_ty k1, _, rfl, ?_⟩
      refine iteF ?_
      refine ⟨_, rfl, rfl, _, rfl, ?_⟩
      rw [decide_eq_false (by intro z; cases z)]
      refine iteF ?_
      refine ⟨_, rfl, two_sz, fun p hp => ?_⟩
      exact ⟨_, p, _, _, [.type "int", .type "str"], _, rfl, upd_same, .cons (.ty _) (.cons (.ty _) .nil), ty _ (same_new hp), kitA (cs := ["int", "str"]) k2, kQ _ (same_new hp)⟩
    | @tup m a xs bs h hl few each =>
      have e := hR m rfl
      subst e
      refine ⟨_, rfl, _, _, _, _, _, rfl, .ty _, tyx_tup h, kit_ty (r := true) (by decide +kernel), _, rfl, ?_⟩
      refine iteT ?_
      refine ⟨_, rfl, a, rfl, ⟨_, h⟩, fun D hD => ?_⟩
      refine lc_it walk_tup (fun i H' => Same H H' ∧ H' D = some (.lst ((bs.take i).map V.bl))) ⟨same_new hD, upd_same⟩ (fun i H' _ z => seqT_same z.1 h) ?_ ?_
      · rintro i x H' H'' hi ⟨z, hd⟩ ⟨rfl, hx⟩
        have hib : i < bs.length := hl ▸ hi
        refine ⟨rfl, ?_⟩
        unfold tYes
        dsimp only
        refine iteT ?_
        refine ⟨_, rfl, x, bs[i], rfl, (each i x bs[i] hx (List.getElem?_eq_getElem hib)).same z, fun H4 s4 => ?_⟩
        refine ⟨_, s4 _ _ hd, ?_, fun c o e => ?_, ?_⟩
        · rw [List.length_map, List.length_take, sizeLine_eq]
          omega
        · rw [upd_ne (ne_of_none e hD)]
          exact s4 c o (z c o e)
        · rw [upd_same, List.take_succ, List.map_append, List.getElem?_eq_getElem hib]
          rfl
      · rintro H' ⟨z, hd⟩
        rw [hl, List.take_length] at hd
        exact ⟨D, bs, rfl, SqL.of hd, kQ _ z⟩
theorem ok_isV {f : Addr} {fd : FuncData} (F : Fun K "is_value" "is_value" sIsV f fd) (B : Blt mg) (hm : mg "is_value" = some (.ref f)) (bS : Binds K fd ["given"] []) :
    ∀ n : Nat, FnOk P w K mg base CX0 (n + 1) f fd ["given"] (spIsV K n)
  | 0 => isV_body (k := 0) F B hm bS fn_never fun m e => nomatch e
  | n + 1 => isV_body (k := n + 1) F B hm bS (ok_isV F B hm bS n) fun m e => by
    cases e
    rfl
end
end TW
namespace TWHead
open PySem PySem.Spec PySem.W PySem.Calls PyProof.Rows L2 TW
abbrev R : OpenRow := OpenLaw.row PySem.Challenge.rw_turnways_k19_long_runs
abbrev qv : Program := view R.prog [72]
def names0 : List PySem.Str := ["_wall", "__name__", "TurnError", "BadWorks", "BadName", "BadValue", "BadSize", "BadLimit", "NoThing", "NotHeld", "NoWork", "CanNot"]
def names1 : List PySem.Str := ["Held", "LONGEST_WORD", "is_whole", "is_word", "is_value", "same", "check_value", "check_thing", "check_going", "check_call", "halt", "ask"]
def names2 : List PySem.Str := ["Hand", "Place", "returned", "come", "Things", "first_things", "things_again", "has_room", "need_not_wait", "do_nothing", "do_look", "do_put"]
def names3 : List PySem.Str := ["do_swap", "do_trade", "do_take", "do_give", "do_reach", "do_lay", "do_fetch", "STEPS", "do_step", "place_of", "can_go", "Run"]
def names4 : List PySem.Str := ["MOST_WORKS", "TOP_LONGEST", "TOP_MOST", "check_works", "check_names", "check_size", "check_limit", "copied", "Shop", "_law_source", "_law_draw", "_law_pick"]
def names5 : List PySem.Str := ["_law_same", "_law_counting", "_law_handing", "_law_getting", "_law_led"]
def names : List PySem.Str := names0 ++ names1 ++ names2 ++ names3 ++ names4 ++ names5
/-- a def's keyword-only default, where it is an object -/
def kwAt (p : PySem.Str × Option PySem.Str) (x : PySem.Str) (K : Frag) : Addr := match K.lookup (He.fAd K p) with
  | some ⟨_, _, .func fd, _⟩ => (match fd.kwdefaults with
    | .ref D => (match nsIn K D x with
      | some (some (.ref a)) => a
      | _ => 0)
    | _ => 0)
  | _ => 0
/-- an own error's class -/
def oexB (K : Frag) (C : Addr) : Bool := match K.lookup C with
  | some ⟨.type "type", _, .cls cd, sl⟩ => (match cd.mro, sl.toList with
    | .ref C' :: bm, [_, _, _, _, some (.builtin n), _] => C' == C && (n == "ValueError.__new__" && (!cd.hasDel && (cd.hasDict && PySem.HandSPX.refsVE bm)))
    | _, _ => false)
  | _ => false
theorem oexB_ok {K : Frag} {C : Addr} (q : oexB K C = true) : ∃ nm q N bs bm sn sub ab col dd k0 k1 k2 k3 k5, K.lookup C = some (excClassObj nm q C N bs bm true sn sub ab col dd k0 k1 k2 k3 k5 "ValueError.__new__") ∧ PySem.HandSPX.refsVE bm = true := by
  unfold oexB at q
  split at q
  · rename_i dict cdat slots lk
    split at q
    · rename_i self rest a0 a1 a2 a3 newer a5 eMro eSl
      obtain ⟨q1, q⟩ := He.ba q
      obtain ⟨q2, q⟩ := He.ba q
      obtain ⟨q3, q⟩ := He.ba q
      obtain ⟨q4, q5⟩ := He.ba q
      obtain ⟨f1, f2, f3, f4, f5, f6, f7, f8, f9, f10, f11⟩ := cdat
      have i1 := eq_of_beq q1
      have i2 := eq_of_beq q2
      have i3 : f11 = false := by
        cases f11 with
        | false => rfl
        | true => cases q3
      have i4 : f6 = true := q4
      subst i1 i2 i3 i4
      obtain ⟨ls⟩ := slots
      obtain rfl : ls = _ := eSl
      obtain rfl : f3 = _ := eMro
      exact ⟨_, _, _, _, rest, _, _, _, _, dict, a0, a1, a2, a3, a5, lk, q5⟩
    · cases q
  · cases q
/-- an own error of the one field f -/
def errB (K : Frag) (x f : PySem.Str) : Bool := oexB K (He.ga K x) && (decide (findIn K (.ref (He.ga K x)) "__setattr__" = some (some (.builtin "object.__setattr__"))) && (decide (subIn K (.ref (He.ga K x)) (.type "BaseException") = some true) && (decide (typeIn K (.ref (He.ga K x)) = some (.type "type")) && (keepIn K (.ref (He.ga K x)) &&
  (decide (findIn K (.ref (He.ga K x)) "__getattribute__" = some (some (.builtin "BaseException.__getattribute__"))) && (decide (findIn K (.ref (He.ga K x)) "__getattr__" = some none) && (hasDictIn K (He.ga K x) && (decide (findIn K (.ref (He.ga K x)) "__class__" = some (some (.builtin "object.__class__"))) &&
  (decide (specialIn K (.builtin "object.__class__") "__get__" = some (some (.builtin "getset_descriptor.__get__"))) && (decide (takesIn K (.builtin "object.__class__") = some true) && (decide (mroIn K (He.ga K x) (.type "object") = some true) && (decide (findIn K (.ref (He.ga K x)) f = some none) &&
  (decide (findIn K (.ref (He.ga K x)) "__init__" = some (some (.ref (He.fAd K (x, some "__init__"))))) && decide (typeIn K (.ref (He.fAd K (x, some "__init__"))) = some (.type "function")))))))))))))))
theorem errB_ok {K : Frag} {x f : PySem.Str} {fd : FuncData} (h : errB K x f = true) (bp : ∀ (s : Shared) (u v : Value), BindsTo s fd ⟨[u, v], []⟩ [("self", u), (f, v)]) (bk : ∀ (s : Shared) (u v : Value), BindsTo s fd ⟨[u], [(f, v)]⟩ [("self", u), (f, v)]) :
    ErrC K (He.ga K x) (He.fAd K (x, some "__init__")) f fd := by
  obtain ⟨h1, h⟩ := He.ba h
  obtain ⟨h2, h⟩ := He.ba h
  obtain ⟨h3, h⟩ := He.ba h
  obtain ⟨h4, h⟩ := He.ba h
  obtain ⟨h5, h⟩ := He.ba h
  obtain ⟨h6, h⟩ := He.ba h
  obtain ⟨h7, h⟩ := He.ba h
  obtain ⟨h8, h⟩ := He.ba h
  obtain ⟨h9, h⟩ := He.ba h
  obtain ⟨h10, h⟩ := He.ba h
  obtain ⟨h11, h⟩ := He.ba h
  obtain ⟨h12, h⟩ := He.ba h
  obtain ⟨h13, h⟩ := He.ba h
  obtain ⟨h14, h15⟩ := He.ba h
  exact ⟨⟨oexB_ok h1, of_decide_eq_true h2, of_decide_eq_true h3, of_decide_eq_true h4, h5⟩, ⟨of_decide_eq_true h6, of_decide_eq_true h7, of_decide_eq_true h3, h8, of_decide_eq_true h9, of_decide_eq_true h10, of_decide_eq_true h11, of_decide_eq_true h12⟩,
    ⟨of_decide_eq_true h6, of_decide_eq_true h7, of_decide_eq_true h3, h8⟩, of_decide_eq_true h13, of_decide_eq_true h14, of_decide_eq_true h15, bp, bk⟩
/-- Held -/
def heldB (K : Frag) : Bool := excIn K (He.ga K "Held") [.type "Exception", .type "BaseException", .type "object"] "Exception.__new__" && (keepIn K (.ref (He.ga K "Held")) && (decide (subIn K (.ref (He.ga K "Held")) (.type "BaseException") = some true) && decide (typeIn K (.ref (He.ga K "Held")) = some (.type "type"))))
/-- an empty tuple -/
def noneB (K : Frag) (a : Addr) : Bool := match K.lookup a with
  | some ⟨.type c, _, .seq its _, _⟩ => decide (c = "tuple") && (decide (its.size ≤ sizeLine) && He.relAll [] its.toList)
  | _ => false
theorem noneB_ok {K : Frag} {a : Addr} (h : noneB K a = true) (H : Hp) : SqT K H a [] := by
  unfold noneB at h
  split at h
  · rename_i c od its n sl lk
    obtain ⟨h1, h2⟩ := He.ba h
    obtain ⟨h3, h4⟩ := He.ba h2
    exact .inr ⟨_, its, n, lk, congrArg Value.type (of_decide_eq_true h1), rfl, of_decide_eq_true h3, He.relAll_ok h4⟩
  · cases h
def fa0 : List He.Fa := [.free "len", .free "int", .free "bool", .free "str", .free "list", .free "tuple", .free "dict", .free "isinstance", .free "all", .free "zip", .free "range", .free "sorted", .free "enumerate", .free "set", .free "sum", .int "LONGEST_WORD" 8, .int "MOST_WORKS" 4, .int "TOP_LONGEST" 40, .int "TOP_MOST" 2000, .glo "BadWorks"]
def fa1 : List He.Fa := [.glo "BadName", .glo "BadValue", .glo "BadSize", .glo "BadLimit", .glo "NoThing", .glo "NotHeld", .glo "NoWork", .glo "CanNot", .glo "is_whole", .glo "is_word", .glo "is_value", .glo "same", .glo "check_value", .glo "check_thing", .glo "check_going", .glo "check_call", .glo "halt", .glo "ask", .glo "Hand", .glo "Place"]
def fa2 : List He.Fa := [.glo "returned", .glo "come", .glo "Things", .glo "first_things", .glo "things_again", .glo "has_room", .glo "need_not_wait", .glo "do_nothing", .glo "do_look", .glo "do_put", .glo "do_swap", .glo "do_trade", .glo "do_take", .glo "do_give", .glo "do_reach", .glo "do_lay", .glo "do_fetch", .glo "do_step", .glo "place_of", .glo "can_go"]
def fa3 : List He.Fa := [.glo "Run", .glo "check_works", .glo "check_names", .glo "check_size", .glo "check_limit", .glo "copied", .glo "Shop", .glo "_law_source", .glo "_law_draw", .glo "_law_pick", .glo "_law_same", .glo "_law_counting", .glo "_law_handing", .glo "_law_getting", .glo "_law_led", .glo "law", .glo "Held", .glo "STEPS", .cls "Hand", .mkr "Hand"]
def fa4 : List He.Fa := [.noat "Hand" "me", .noat "Hand" "shop", .noat "Hand" "answers", .noat "Hand" "asked", .noat "Hand" "mine", .noat "Hand" "words", .noat "Hand" "pending", .noat "Hand" "end", .noat "Hand" "halted", .cls "Place", .mkr "Place", .noat "Place" "answers", .noat "Place" "pending", .noat "Place" "end", .noat "Place" "words", .cls "Things", .mkr "Things", .noat "Things" "cells", .noat "Things" "holders", .noat "Things" "rows"]
def fa5 : List He.Fa := [.noat "Things" "sizes", .cls "Run", .mkr "Run", .noat "Run" "shop", .noat "Run" "things", .noat "Run" "places", .noat "Run" "done", .cls "Shop", .mkr "Shop", .noat "Shop" "works", .noat "Shop" "cells", .noat "Shop" "locks", .noat "Shop" "belts", .noat "Shop" "many", .noat "Shop" "longest", .noat "Shop" "most", .meth "Hand" "look", .meth "Hand" "put", .meth "Hand" "swap", .meth "Hand" "trade"]
def fa6 : List He.Fa := [.meth "Hand" "until", .meth "Hand" "take", .meth "Hand" "give", .meth "Hand" "reach", .meth "Hand" "lay", .meth "Hand" "fetch", .meth "Hand" "rest", .meth "Hand" "say", .meth "Run" "wish", .meth "Run" "can", .meth "Run" "go", .meth "Run" "turns", .meth "Run" "steps", .meth "Run" "ends", .meth "Run" "cell", .meth "Run" "holder", .meth "Run" "belt", .meth "Run" "said", .meth "Run" "is_over", .meth "Run" "stands"]
def fa7 : List He.Fa := [.meth "Shop" "names", .exm "Held" "Held" true, .exm "NoThing" "NoThing" true, .exm "Held" "NoThing" false]
def fa : List He.Fa := fa0 ++ (fa1 ++ (fa2 ++ (fa3 ++ (fa4 ++ (fa5 ++ (fa6 ++ (fa7)))))))
def fn0 : List He.DefD := [⟨("BadWorks", some "__init__"), "__init__", "BadWorks.__init__", defArgs (inClass (top 3) 0), defBody (inClass (top 3) 0), defScope (inClass (top 3) 0), [], []⟩,
  ⟨("BadName", some "__init__"), "__init__", "BadName.__init__", defArgs (inClass (top 4) 0), defBody (inClass (top 4) 0), defScope (inClass (top 4) 0), [], []⟩,
  ⟨("BadValue", some "__init__"), "__init__", "BadValue.__init__", defArgs (inClass (top 5) 0), defBody (inClass (top 5) 0), defScope (inClass (top 5) 0), [], []⟩,
  ⟨("BadSize", some "__init__"), "__init__", "BadSize.__init__", defArgs (inClass (top 6) 0), defBody (inClass (top 6) 0), defScope (inClass (top 6) 0), [], []⟩,
  ⟨("BadLimit", some "__init__"), "__init__", "BadLimit.__init__", defArgs (inClass (top 7) 0), defBody (inClass (top 7) 0), defScope (inClass (top 7) 0), [], []⟩,
  ⟨("NoThing", some "__init__"), "__init__", "NoThing.__init__", defArgs (inClass (top 8) 0), defBody (inClass (top 8) 0), defScope (inClass (top 8) 0), [], []⟩,
  ⟨("NotHeld", some "__init__"), "__init__", "NotHeld.__init__", defArgs (inClass (top 9) 0), defBody (inClass (top 9) 0), defScope (inClass (top 9) 0), [], []⟩,
  ⟨("NoWork", some "__init__"), "__init__", "NoWork.__init__", defArgs (inClass (top 10) 0), defBody (inClass (top 10) 0), defScope (inClass (top 10) 0), [], []⟩,
  ⟨("CanNot", some "__init__"), "__init__", "CanNot.__init__", defArgs (inClass (top 11) 0), defBody (inClass (top 11) 0), defScope (inClass (top 11) 0), [], []⟩,
  ⟨("is_whole", none), "is_whole", "is_whole", defArgs (top 15), defBody (top 15), defScope (top 15), [], []⟩]
def fn1 : List He.DefD := [⟨("is_word", none), "is_word", "is_word", defArgs (top 16), defBody (top 16), defScope (top 16), [], []⟩,
  ⟨("is_value", none), "is_value", "is_value", defArgs (top 17), defBody (top 17), defScope (top 17), [], []⟩,
  ⟨("same", none), "same", "same", defArgs (top 18), defBody (top 18), defScope (top 18), [], []⟩,
  ⟨("check_value", none), "check_value", "check_value", defArgs (top 19), defBody (top 19), defScope (top 19), [], []⟩,
  ⟨("check_thing", none), "check_thing", "check_thing", defArgs (top 20), defBody (top 20), defScope (top 20), [], []⟩,
  ⟨("check_going", none), "check_going", "check_going", defArgs (top 22), defBody (top 22), defScope (top 22), [], []⟩,
  ⟨("check_call", none), "check_call", "check_call", defArgs (top 23), defBody (top 23), defScope (top 23), [], []⟩,
  ⟨("halt", none), "halt", "halt", defArgs (top 24), defBody (top 24), defScope (top 24), [], []⟩,
  ⟨("ask", none), "ask", "ask", defArgs (top 25), defBody (top 25), defScope (top 25), [], []⟩,
  ⟨("Hand", some "__init__"), "__init__", "Hand.__init__", defArgs (inClass (top 26) 0), defBody (inClass (top 26) 0), defScope (inClass (top 26) 0), [], []⟩]
def fn2 : List He.DefD := [⟨("Hand", some "look"), "look", "Hand.look", defArgs (inClass (top 26) 1), defBody (inClass (top 26) 1), defScope (inClass (top 26) 1), [], []⟩,
  ⟨("Hand", some "put"), "put", "Hand.put", defArgs (inClass (top 26) 2), defBody (inClass (top 26) 2), defScope (inClass (top 26) 2), [], []⟩,
  ⟨("Hand", some "swap"), "swap", "Hand.swap", defArgs (inClass (top 26) 3), defBody (inClass (top 26) 3), defScope (inClass (top 26) 3), [], []⟩,
  ⟨("Hand", some "trade"), "trade", "Hand.trade", defArgs (inClass (top 26) 4), defBody (inClass (top 26) 4), defScope (inClass (top 26) 4), [], []⟩,
  ⟨("Hand", some "until"), "until", "Hand.until", defArgs (inClass (top 26) 5), defBody (inClass (top 26) 5), defScope (inClass (top 26) 5), [], []⟩,
  ⟨("Hand", some "take"), "take", "Hand.take", defArgs (inClass (top 26) 6), defBody (inClass (top 26) 6), defScope (inClass (top 26) 6), [], []⟩,
  ⟨("Hand", some "give"), "give", "Hand.give", defArgs (inClass (top 26) 7), defBody (inClass (top 26) 7), defScope (inClass (top 26) 7), [], []⟩,
  ⟨("Hand", some "reach"), "reach", "Hand.reach", defArgs (inClass (top 26) 8), defBody (inClass (top 26) 8), defScope (inClass (top 26) 8), [], []⟩,
  ⟨("Hand", some "lay"), "lay", "Hand.lay", defArgs (inClass (top 26) 9), defBody (inClass (top 26) 9), defScope (inClass (top 26) 9), [], []⟩,
  ⟨("Hand", some "fetch"), "fetch", "Hand.fetch", defArgs (inClass (top 26) 10), defBody (inClass (top 26) 10), defScope (inClass (top 26) 10), [], []⟩]
def fn3 : List He.DefD := [⟨("Hand", some "rest"), "rest", "Hand.rest", defArgs (inClass (top 26) 11), defBody (inClass (top 26) 11), defScope (inClass (top 26) 11), [], []⟩,
  ⟨("Hand", some "say"), "say", "Hand.say", defArgs (inClass (top 26) 12), defBody (inClass (top 26) 12), defScope (inClass (top 26) 12), [], []⟩,
  ⟨("Place", some "__init__"), "__init__", "Place.__init__", defArgs (inClass (top 28) 0), defBody (inClass (top 28) 0), defScope (inClass (top 28) 0), [], []⟩,
  ⟨("returned", none), "returned", "returned", defArgs (top 29), defBody (top 29), defScope (top 29), [], []⟩,
  ⟨("come", none), "come", "come", defArgs (top 30), defBody (top 30), defScope (top 30), [], []⟩,
  ⟨("Things", some "__init__"), "__init__", "Things.__init__", defArgs (inClass (top 32) 0), defBody (inClass (top 32) 0), defScope (inClass (top 32) 0), [], []⟩,
  ⟨("first_things", none), "first_things", "first_things", defArgs (top 33), defBody (top 33), defScope (top 33), [], []⟩,
  ⟨("things_again", none), "things_again", "things_again", defArgs (top 34), defBody (top 34), defScope (top 34), [], []⟩,
  ⟨("has_room", none), "has_room", "has_room", defArgs (top 35), defBody (top 35), defScope (top 35), [], []⟩,
  ⟨("need_not_wait", none), "need_not_wait", "need_not_wait", defArgs (top 36), defBody (top 36), defScope (top 36), [], []⟩]
def fn4 : List He.DefD := [⟨("do_nothing", none), "do_nothing", "do_nothing", defArgs (top 37), defBody (top 37), defScope (top 37), [], []⟩,
  ⟨("do_look", none), "do_look", "do_look", defArgs (top 38), defBody (top 38), defScope (top 38), [], []⟩,
  ⟨("do_put", none), "do_put", "do_put", defArgs (top 39), defBody (top 39), defScope (top 39), [], []⟩,
  ⟨("do_swap", none), "do_swap", "do_swap", defArgs (top 40), defBody (top 40), defScope (top 40), [], []⟩,
  ⟨("do_trade", none), "do_trade", "do_trade", defArgs (top 41), defBody (top 41), defScope (top 41), [], []⟩,
  ⟨("do_take", none), "do_take", "do_take", defArgs (top 42), defBody (top 42), defScope (top 42), [], []⟩,
  ⟨("do_give", none), "do_give", "do_give", defArgs (top 43), defBody (top 43), defScope (top 43), [], []⟩,
  ⟨("do_reach", none), "do_reach", "do_reach", defArgs (top 44), defBody (top 44), defScope (top 44), [], []⟩,
  ⟨("do_lay", none), "do_lay", "do_lay", defArgs (top 45), defBody (top 45), defScope (top 45), [], []⟩,
  ⟨("do_fetch", none), "do_fetch", "do_fetch", defArgs (top 46), defBody (top 46), defScope (top 46), [], []⟩]
def fn5 : List He.DefD := [⟨("do_step", none), "do_step", "do_step", defArgs (top 48), defBody (top 48), defScope (top 48), [], []⟩,
  ⟨("place_of", none), "place_of", "place_of", defArgs (top 50), defBody (top 50), defScope (top 50), [], []⟩,
  ⟨("can_go", none), "can_go", "can_go", defArgs (top 51), defBody (top 51), defScope (top 51), [], []⟩,
  ⟨("Run", some "__init__"), "__init__", "Run.__init__", defArgs (inClass (top 52) 0), defBody (inClass (top 52) 0), defScope (inClass (top 52) 0), [], []⟩,
  ⟨("Run", some "wish"), "wish", "Run.wish", defArgs (inClass (top 52) 1), defBody (inClass (top 52) 1), defScope (inClass (top 52) 1), [], []⟩,
  ⟨("Run", some "can"), "can", "Run.can", defArgs (inClass (top 52) 2), defBody (inClass (top 52) 2), defScope (inClass (top 52) 2), [], []⟩,
  ⟨("Run", some "go"), "go", "Run.go", defArgs (inClass (top 52) 3), defBody (inClass (top 52) 3), defScope (inClass (top 52) 3), [], []⟩,
  ⟨("Run", some "turns"), "turns", "Run.turns", defArgs (inClass (top 52) 4), defBody (inClass (top 52) 4), defScope (inClass (top 52) 4), [], []⟩,
  ⟨("Run", some "steps"), "steps", "Run.steps", defArgs (inClass (top 52) 5), defBody (inClass (top 52) 5), defScope (inClass (top 52) 5), [], []⟩,
  ⟨("Run", some "ends"), "ends", "Run.ends", defArgs (inClass (top 52) 6), defBody (inClass (top 52) 6), defScope (inClass (top 52) 6), [], []⟩]
def fn6 : List He.DefD := [⟨("Run", some "cell"), "cell", "Run.cell", defArgs (inClass (top 52) 7), defBody (inClass (top 52) 7), defScope (inClass (top 52) 7), [], []⟩,
  ⟨("Run", some "holder"), "holder", "Run.holder", defArgs (inClass (top 52) 8), defBody (inClass (top 52) 8), defScope (inClass (top 52) 8), [], []⟩,
  ⟨("Run", some "belt"), "belt", "Run.belt", defArgs (inClass (top 52) 9), defBody (inClass (top 52) 9), defScope (inClass (top 52) 9), [], []⟩,
  ⟨("Run", some "said"), "said", "Run.said", defArgs (inClass (top 52) 10), defBody (inClass (top 52) 10), defScope (inClass (top 52) 10), [], []⟩,
  ⟨("Run", some "is_over"), "is_over", "Run.is_over", defArgs (inClass (top 52) 12), defBody (inClass (top 52) 12), defScope (inClass (top 52) 12), [], []⟩,
  ⟨("Run", some "stands"), "stands", "Run.stands", defArgs (inClass (top 52) 13), defBody (inClass (top 52) 13), defScope (inClass (top 52) 13), [], []⟩,
  ⟨("check_works", none), "check_works", "check_works", defArgs (top 57), defBody (top 57), defScope (top 57), [], []⟩,
  ⟨("check_names", none), "check_names", "check_names", defArgs (top 58), defBody (top 58), defScope (top 58), [], []⟩,
  ⟨("check_size", none), "check_size", "check_size", defArgs (top 59), defBody (top 59), defScope (top 59), [], []⟩,
  ⟨("check_limit", none), "check_limit", "check_limit", defArgs (top 60), defBody (top 60), defScope (top 60), [], []⟩]
def fn7 : List He.DefD := [⟨("copied", none), "copied", "copied", defArgs (top 61), defBody (top 61), defScope (top 61), [], []⟩,
  ⟨("Shop", some "__init__"), "__init__", "Shop.__init__", defArgs (inClass (top 62) 0), defBody (inClass (top 62) 0), defScope (inClass (top 62) 0), [], [("cells", .non), ("locks", .adr (kwAt ("Shop", some "__init__") "locks")), ("belts", .non), ("longest", .int 24), ("most", .int 400)]⟩,
  ⟨("Shop", some "names"), "names", "Shop.names", defArgs (inClass (top 62) 1), defBody (inClass (top 62) 1), defScope (inClass (top 62) 1), [], []⟩,
  ⟨("_law_source", none), "_law_source", "_law_source", defArgs (top 64), defBody (top 64), defScope (top 64), [], []⟩,
  ⟨("_law_draw", none), "_law_draw", "_law_draw", defArgs (top 65), defBody (top 65), defScope (top 65), [], []⟩,
  ⟨("_law_pick", none), "_law_pick", "_law_pick", defArgs (top 66), defBody (top 66), defScope (top 66), [], []⟩,
  ⟨("_law_same", none), "_law_same", "_law_same", defArgs (top 67), defBody (top 67), defScope (top 67), [], []⟩,
  ⟨("_law_counting", none), "_law_counting", "_law_counting", defArgs (top 68), defBody (top 68), defScope (top 68), [], []⟩,
  ⟨("_law_handing", none), "_law_handing", "_law_handing", defArgs (top 69), defBody (top 69), defScope (top 69), [], []⟩,
  ⟨("_law_getting", none), "_law_getting", "_law_getting", defArgs (top 70), defBody (top 70), defScope (top 70), [], []⟩]
def fn8 : List He.DefD := [⟨("_law_led", none), "_law_led", "_law_led", defArgs (top 71), defBody (top 71), defScope (top 71), [], []⟩,
  ⟨("law", none), "law", "law", defArgs (top 72), defBody (top 72), defScope (top 72), [], []⟩]
def fn : List He.DefD := fn0 ++ (fn1 ++ (fn2 ++ (fn3 ++ (fn4 ++ (fn5 ++ (fn6 ++ (fn7 ++ (fn8))))))))
def ts : List He.Tab := [(fun K => He.ga K "STEPS", ["look", "put", "swap", "trade", "until", "take", "give", "reach", "lay", "fetch", "rest"])]
def tf : List He.Defn := [("law", none)]
def ex (K : Frag) : Bool := errB K "BadWorks" "count" && (errB K "BadName" "name" && (errB K "BadValue" "value" && (errB K "BadSize" "size" && (errB K "BadLimit" "limit" && (errB K "NoThing" "name" && (errB K "NotHeld" "lock" && (errB K "NoWork" "number" && (errB K "CanNot" "number" && (heldB K && (noneB K (kwAt ("Shop", some "__init__") "locks" K) && (He.valsB K (He.ga K "STEPS") [("look", .glo "do_look"), ("put", .glo "do_put"), ("swap", .glo "do_swap"), ("trade", .glo "do_trade"), ("until", .glo "do_nothing"), ("take", .glo "do_take"), ("give", .glo "do_give"), ("reach", .glo "do_reach"), ("lay", .glo "do_lay"), ("fetch", .glo "do_fetch"), ("rest", .glo "do_nothing")] && (decide (List.Nodup [He.ga K "do_look", He.ga K "do_put", He.ga K "do_swap", He.ga K "do_trade", He.ga K "do_nothing", He.ga K "do_take", He.ga K "do_give", He.ga K "do_reach", He.ga K "do_lay", He.ga K "do_fetch"])))))))))))))
/-- the def's table of nested code stands in the heap, empty, and its code object names it -/
def tabOk (look : Addr → Option Obj) (K : Frag) (p : He.Defn) : Bool := codeHdIn K (He.cT K p).1 (He.cT K p).2 && (look (He.cT K p).2).any He.emptyTab
theorem tabOk_says {h : Heap} {as : List Addr} {p : He.Defn} (e : tabOk h.get? (He.frT h.get? as) p = true) :
    codeHdIn (He.frT h.get? as) (He.cT (He.frT h.get? as) p).1 (He.cT (He.frT h.get? as) p).2 = true ∧ (He.frT h.get? as).lookup (He.cT (He.frT h.get? as) p).2 = none ∧ h.get? (He.cT (He.frT h.get? as) p).2 = some { cls := .none, data := .fields #[] } := by
  have both := Bool.and_eq_true_iff.mp e
  refine ⟨both.1, ?_⟩
  have any := both.2
  revert any
  generalize (He.cT (He.frT h.get? as) p).2 = P
  intro any
  match q : h.get? P, any with
  | some o, any => exact ⟨He.frT_none q any, congrArg some (He.emptyTab_eq any)⟩
  | none, any => cases any
/-- what is told of the heap's objects below N: the facts, the defs, the dicts; one Bool; the tables -/
def obsR (N : Nat) (fa : List He.Fa) (fn : List He.DefD) (ts : List He.Tab) (tf : List He.Defn) (ex : Frag → Bool) (look : Addr → Option Obj) : He.AlT × Bool × Bool := (He.obsT fa fn ts (He.frT look (List.range N)), ex (He.frT look (List.range N)), tf.all (tabOk look (He.frT look (List.range N))))
def hookR (N : Nat) (fa : List He.Fa) (fn : List He.DefD) (ts : List He.Tab) (tf : List He.Defn) (ex : Frag → Bool) : Hook :=
  { α := He.AlT × Bool × Bool, obs := fun s => obsR N fa fn ts tf ex s.heap.get?, val := fun w => (He.valT fn ts w, true, true), says := fun w h => ∃ K : Frag, K.In h ∧ He.SaysX fa fn ts tf ex w h K,
    of := fun w s e => by
      have e1 := congrArg Prod.fst e
      have e2 := congrArg (fun z => z.2.1) e
      have e3 : tf.all (tabOk s.heap.get? (He.frT s.heap.get? (List.range N))) = true := congrArg (fun z => z.2.2) e
      have each := fun p hp => tabOk_says (List.all_eq_true.mp e3 p hp)
      exact ⟨_, He.frT_in, e1, e2, fun p hp => (each p hp).1, fun p hp => (each p hp).2.1, fun p hp => (each p hp).2.2⟩,
    keeps := fun w h1 h2 told later => by
      obtain ⟨K, inK, c⟩ := told
      exact ⟨K, inK.keeps later, c.t, c.more, c.hd, c.out, fun p hp => later _ _ (c.empty p hp)⟩ }
theorem obsR_eq {N : Nat} {fa : List He.Fa} {fn : List He.DefD} {ts : List He.Tab} {tf : List He.Defn} {ex : Frag → Bool} {look : Addr → Option Obj} {s : Shared} (h : ∀ a, look a = s.heap.get? a) : obsR N fa fn ts tf ex look = (hookR N fa fn ts tf ex).obs s := by
  obtain rfl : look = s.heap.get? := funext h
  rfl
abbrev hk : Hook := hookR 1200 fa fn ts tf ex
noncomputable def ob (s : SharedT) : He.AlT × Bool × Bool := obsR 1200 fa fn ts tf ex (HandSHeadRun.getT s)
theorem ob_eq (s : SharedT) : ob s = hk.obs s.abs := obsR_eq (HandSHeadRun.getT_eq s)
theorem runF (w : World) : HandSHeadRun.RunEq R qv hk ob 40000 names (w.withFollow "special-get-raises" false) := by
  intro os
  kernel_rfl
theorem runT (w : World) : HandSHeadRun.RunEq R qv hk ob 40000 names (w.withFollow "special-get-raises" true) := by
  intro os
  kernel_rfl
theorem run (w : World) : HandSHeadRun.RunEq R qv hk ob 40000 names w := byRow2 "special-get-raises" (P := fun w => HandSHeadRun.RunEq R qv hk ob 40000 names w) runF runT w
end TWHead
namespace TW
open PySem PySem.Spec PyProof.Rows L2
theorem hF_n0_1 : ¬ (("me" : Str) = "shop") := by decide +kernel
theorem hF_n0_2 : ¬ (("me" : Str) = "answers") := by decide +kernel
theorem hF_n0_3 : ¬ (("me" : Str) = "asked") := by decide +kernel
theorem hF_n0_4 : ¬ (("me" : Str) = "mine") := by decide +kernel
theorem hF_n0_5 : ¬ (("me" : Str) = "words") := by decide +kernel
theorem hF_n0_6 : ¬ (("me" : Str) = "pending") := by decide +kernel
theorem hF_n0_7 : ¬ (("me" : Str) = "end") := by decide +kernel
theorem hF_n0_8 : ¬ (("me" : Str) = "halted") := by decide +kernel
theorem hF_n1_0 : ¬ (("shop" : Str) = "me") := by decide +kernel
theorem hF_n1_2 : ¬ (("shop" : Str) = "answers") := by decide +kernel
theorem hF_n1_3 : ¬ (("shop" : Str) = "asked") := by decide +kernel
theorem hF_n1_4 : ¬ (("shop" : Str) = "mine") := by decide +kernel
theorem hF_n1_5 : ¬ (("shop" : Str) = "words") := by decide +kernel
theorem hF_n1_6 : ¬ (("shop" : Str) = "pending") := by decide +kernel
theorem hF_n1_7 : ¬ (("shop" : Str) = "end") := by decide +kernel
theorem hF_n1_8 : ¬ (("shop" : Str) = "halted") := by decide +kernel
theorem hF_n2_0 : ¬ (("answers" : Str) = "me") := by decide +kernel
theorem hF_n2_1 : ¬ (("answers" : Str) = "shop") := by decide +kernel
theorem hF_n2_3 : ¬ (("answers" : Str) = "asked") := by decide +kernel
theorem hF_n2_4 : ¬ (("answers" : Str) = "mine") := by decide +kernel
theorem hF_n2_5 : ¬ (("answers" : Str) = "words") := by decide +kernel
theorem hF_n2_6 : ¬ (("answers" : Str) = "pending") := by decide +kernel
theorem hF_n2_7 : ¬ (("answers" : Str) = "end") := by decide +kernel
theorem hF_n2_8 : ¬ (("answers" : Str) = "halted") := by decide +kernel
theorem hF_n3_0 : ¬ (("asked" : Str) = "me") := by decide +kernel
theorem hF_n3_1 : ¬ (("asked" : Str) = "shop") := by decide +kernel
theorem hF_n3_2 : ¬ (("asked" : Str) = "answers") := by decide +kernel
theorem hF_n3_4 : ¬ (("asked" : Str) = "mine") := by decide +kernel
theorem hF_n3_5 : ¬ (("asked" : Str) = "words") := by decide +kernel
theorem hF_n3_6 : ¬ (("asked" : Str) = "pending") := by decide +kernel
theorem hF_n3_7 : ¬ (("asked" : Str) = "end") := by decide +kernel
theorem hF_n3_8 : ¬ (("asked" : Str) = "halted") := by decide +kernel
theorem hF_n4_0 : ¬ (("mine" : Str) = "me") := by decide +kernel
theorem hF_n4_1 : ¬ (("mine" : Str) = "shop") := by decide +kernel
theorem hF_n4_2 : ¬ (("mine" : Str) = "answers") := by decide +kernel
theorem hF_n4_3 : ¬ (("mine" : Str) = "asked") := by decide +kernel
theorem hF_n4_5 : ¬ (("mine" : Str) = "words") := by decide +kernel
theorem hF_n4_6 : ¬ (("mine" : Str) = "pending") := by decide +kernel
theorem hF_n4_7 : ¬ (("mine" : Str) = "end") := by decide +kernel
theorem hF_n4_8 : ¬ (("mine" : Str) = "halted") := by decide +kernel
theorem hF_n5_0 : ¬ (("words" : Str) = "me") := by decide +kernel
theorem hF_n5_1 : ¬ (("words" : Str) = "shop") := by decide +kernel
theorem hF_n5_2 : ¬ (("words" : Str) = "answers") := by decide +kernel
theorem hF_n5_3 : ¬ (("words" : Str) = "asked") := by decide +kernel
theorem hF_n5_4 : ¬ (("words" : Str) = "mine") := by decide +kernel
theorem hF_n5_6 : ¬ (("words" : Str) = "pending") := by decide +kernel
theorem hF_n5_7 : ¬ (("words" : Str) = "end") := by decide +kernel
theorem hF_n5_8 : ¬ (("words" : Str) = "halted") := by decide +kernel
theorem hF_n6_0 : ¬ (("pending" : Str) = "me") := by decide +kernel
theorem hF_n6_1 : ¬ (("pending" : Str) = "shop") := by decide +kernel
theorem hF_n6_2 : ¬ (("pending" : Str) = "answers") := by decide +kernel
theorem hF_n6_3 : ¬ (("pending" : Str) = "asked") := by decide +kernel
theorem hF_n6_4 : ¬ (("pending" : Str) = "mine") := by decide +kernel
theorem hF_n6_5 : ¬ (("pending" : Str) = "words") := by decide +kernel
theorem hF_n6_7 : ¬ (("pending" : Str) = "end") := by decide +kernel
theorem hF_n6_8 : ¬ (("pending" : Str) = "halted") := by decide +kernel
theorem hF_n7_0 : ¬ (("end" : Str) = "me") := by decide +kernel
theorem hF_n7_1 : ¬ (("end" : Str) = "shop") := by decide +kernel
theorem hF_n7_2 : ¬ (("end" : Str) = "answers") := by decide +kernel
theorem hF_n7_3 : ¬ (("end" : Str) = "asked") := by decide +kernel
theorem hF_n7_4 : ¬ (("end" : Str) = "mine") := by decide +kernel
theorem hF_n7_5 : ¬ (("end" : Str) = "words") := by decide +kernel
theorem hF_n7_6 : ¬ (("end" : Str) = "pending") := by decide +kernel
theorem hF_n7_8 : ¬ (("end" : Str) = "halted") := by decide +kernel
theorem hF_n8_0 : ¬ (("halted" : Str) = "me") := by decide +kernel
theorem hF_n8_1 : ¬ (("halted" : Str) = "shop") := by decide +kernel
theorem hF_n8_2 : ¬ (("halted" : Str) = "answers") := by decide +kernel
theorem hF_n8_3 : ¬ (("halted" : Str) = "asked") := by decide +kernel
theorem hF_n8_4 : ¬ (("halted" : Str) = "mine") := by decide +kernel
theorem hF_n8_5 : ¬ (("halted" : Str) = "words") := by decide +kernel
theorem hF_n8_6 : ¬ (("halted" : Str) = "pending") := by decide +kernel
theorem hF_n8_7 : ¬ (("halted" : Str) = "end") := by decide +kernel
/-- the attributes of a hF, in the order in which __init__ stores them -/
def hF (v0 v1 v2 v3 v4 v5 v6 v7 v8 : V) : List (Str × V) := [("me", v0), ("shop", v1), ("answers", v2), ("asked", v3), ("mine", v4), ("words", v5), ("pending", v6), ("end", v7), ("halted", v8)]
theorem hF_get0 {v0 v1 v2 v3 v4 v5 v6 v7 v8 : V} : (hF v0 v1 v2 v3 v4 v5 v6 v7 v8).lookup ("me" : Str) = some v0 := by
  unfold hF
  rw [lookup_put, if_pos rfl]
theorem hF_put0 {v0 v1 v2 v3 v4 v5 v6 v7 v8 z : V} : putF "me" z (hF v0 v1 v2 v3 v4 v5 v6 v7 v8) = hF z v1 v2 v3 v4 v5 v6 v7 v8 := by
  unfold hF
  simp only [putF, if_true]
theorem hF_get1 {v0 v1 v2 v3 v4 v5 v6 v7 v8 : V} : (hF v0 v1 v2 v3 v4 v5 v6 v7 v8).lookup ("shop" : Str) = some v1 := by
  unfold hF
  rw [lookup_put, if_neg hF_n1_0, lookup_put, if_pos rfl]
theorem hF_put1 {v0 v1 v2 v3 v4 v5 v6 v7 v8 z : V} : putF "shop" z (hF v0 v1 v2 v3 v4 v5 v6 v7 v8) = hF v0 z v2 v3 v4 v5 v6 v7 v8 := by
  unfold hF
  simp only [putF, if_neg hF_n0_1, if_true]
theorem hF_get2 {v0 v1 v2 v3 v4 v5 v6 v7 v8 : V} : (hF v0 v1 v2 v3 v4 v5 v6 v7 v8).lookup ("answers" : Str) = some v2 := by
  unfold hF
  rw [lookup_put, if_neg hF_n2_0, lookup_put, if_neg hF_n2_1, lookup_put, if_pos rfl]
theorem hF_put2 {v0 v1 v2 v3 v4 v5 v6 v7 v8 z : V} : putF "answers" z (hF v0 v1 v2 v3 v4 v5 v6 v7 v8) = hF v0 v1 z v3 v4 v5 v6 v7 v8 := by
  unfold hF
  simp only [putF, if_neg hF_n0_2, if_neg hF_n1_2, if_true]
theorem hF_get3 {v0 v1 v2 v3 v4 v5 v6 v7 v8 : V} : (hF v0 v1 v2 v3 v4 v5 v6 v7 v8).lookup ("asked" : Str) = some v3 := by
  unfold hF
  rw [lookup_put, if_neg hF_n3_0, lookup_put, if_neg hF_n3_1, lookup_put, if_neg hF_n3_2, lookup_put, if_pos rfl]
theorem hF_put3 {v0 v1 v2 v3 v4 v5 v6 v7 v8 z : V} : putF "asked" z (hF v0 v1 v2 v3 v4 v5 v6 v7 v8) = hF v0 v1 v2 z v4 v5 v6 v7 v8 := by
  unfold hF
  simp only [putF, if_neg hF_n0_3, if_neg hF_n1_3, if_neg hF_n2_3, if_true]
theorem hF_get4 {v0 v1 v2 v3 v4 v5 v6 v7 v8 : V} : (hF v0 v1 v2 v3 v4 v5 v6 v7 v8).lookup ("mine" : Str) = some v4 := by
  unfold hF
  rw [lookup_put, if_neg hF_n4_0, lookup_put, if_neg hF_n4_1, lookup_put, if_neg hF_n4_2, lookup_put, if_neg hF_n4_3, lookup_put, if_pos rfl]
theorem hF_put4 {v0 v1 v2 v3 v4 v5 v6 v7 v8 z : V} : putF "mine" z (hF v0 v1 v2 v3 v4 v5 v6 v7 v8) = hF v0 v1 v2 v3 z v5 v6 v7 v8 := by
  unfold hF
  simp only [putF, if_neg hF_n0_4, if_neg hF_n1_4, if_neg hF_n2_4, if_neg hF_n3_4, if_true]
theorem hF_get5 {v0 v1 v2 v3 v4 v5 v6 v7 v8 : V} : (hF v0 v1 v2 v3 v4 v5 v6 v7 v8).lookup ("words" : Str) = some v5 := by
  unfold hF
  rw [lookup_put, if_neg hF_n5_0, lookup_put, if_neg hF_n5_1, lookup_put, if_neg hF_n5_2, lookup_put, if_neg hF_n5_3, lookup_put, if_neg hF_n5_4, lookup_put, if_pos rfl]
theorem hF_put5 {v0 v1 v2 v3 v4 v5 v6 v7 v8 z : V} : putF "words" z (hF v0 v1 v2 v3 v4 v5 v6 v7 v8) = hF v0 v1 v2 v3 v4 z v6 v7 v8 := by
  unfold hF
  simp only [putF, if_neg hF_n0_5, if_neg hF_n1_5, if_neg hF_n2_5, if_neg hF_n3_5, if_neg hF_n4_5, if_true]
theorem hF_get6 {v0 v1 v2 v3 v4 v5 v6 v7 v8 : V} : (hF v0 v1 v2 v3 v4 v5 v6 v7 v8).lookup ("pending" : Str) = some v6 := by
  unfold hF
  rw [lookup_put, if_neg hF_n6_0, lookup_put, if_neg hF_n6_1, lookup_put, if_neg hF_n6_2, lookup_put, if_neg hF_n6_3, lookup_put, if_neg hF_n6_4, lookup_put, if_neg hF_n6_5, lookup_put, if_pos rfl]
theorem hF_put6 {v0 v1 v2 v3 v4 v5 v6 v7 v8 z : V} : putF "pending" z (hF v0 v1 v2 v3 v4 v5 v6 v7 v8) = hF v0 v1 v2 v3 v4 v5 z v7 v8 := by
  unfold hF
  simp only [putF, if_neg hF_n0_6, if_neg hF_n1_6, if_neg hF_n2_6, if_neg hF_n3_6, if_neg hF_n4_6, if_neg hF_n5_6, if_true]
theorem hF_get7 {v0 v1 v2 v3 v4 v5 v6 v7 v8 : V} : (hF v0 v1 v2 v3 v4 v5 v6 v7 v8).lookup ("end" : Str) = some v7 := by
  unfold hF
  rw [lookup_put, if_neg hF_n7_0, lookup_put, if_neg hF_n7_1, lookup_put, if_neg hF_n7_2, lookup_put, if_neg hF_n7_3, lookup_put, if_neg hF_n7_4, lookup_put, if_neg hF_n7_5, lookup_put, if_neg hF_n7_6, lookup_put, if_pos rfl]
theorem hF_put7 {v0 v1 v2 v3 v4 v5 v6 v7 v8 z : V} : putF "end" z (hF v0 v1 v2 v3 v4 v5 v6 v7 v8) = hF v0 v1 v2 v3 v4 v5 v6 z v8 := by
  unfold hF
  simp only [putF, if_neg hF_n0_7, if_neg hF_n1_7, if_neg hF_n2_7, if_neg hF_n3_7, if_neg hF_n4_7, if_neg hF_n5_7, if_neg hF_n6_7, if_true]
theorem hF_get8 {v0 v1 v2 v3 v4 v5 v6 v7 v8 : V} : (hF v0 v1 v2 v3 v4 v5 v6 v7 v8).lookup ("halted" : Str) = some v8 := by
  unfold hF
  rw [lookup_put, if_neg hF_n8_0, lookup_put, if_neg hF_n8_1, lookup_put, if_neg hF_n8_2, lookup_put, if_neg hF_n8_3, lookup_put, if_neg hF_n8_4, lookup_put, if_neg hF_n8_5, lookup_put, if_neg hF_n8_6, lookup_put, if_neg hF_n8_7, lookup_put, if_pos rfl]
theorem hF_put8 {v0 v1 v2 v3 v4 v5 v6 v7 v8 z : V} : putF "halted" z (hF v0 v1 v2 v3 v4 v5 v6 v7 v8) = hF v0 v1 v2 v3 v4 v5 v6 v7 z := by
  unfold hF
  simp only [putF, if_neg hF_n0_8, if_neg hF_n1_8, if_neg hF_n2_8, if_neg hF_n3_8, if_neg hF_n4_8, if_neg hF_n5_8, if_neg hF_n6_8, if_neg hF_n7_8, if_true]
theorem hF_make0 {v0 : V} : putF "me" v0 ([] : List (Str × V)) = ([("me", v0)] : List (Str × V)) := rfl
theorem hF_make1 {v0 v1 : V} : putF "shop" v1 ([("me", v0)] : List (Str × V)) = ([("me", v0), ("shop", v1)] : List (Str × V)) := by
  simp only [putF, if_neg hF_n0_1, if_true]
theorem hF_make2 {v0 v1 v2 : V} : putF "answers" v2 ([("me", v0), ("shop", v1)] : List (Str × V)) = ([("me", v0), ("shop", v1), ("answers", v2)] : List (Str × V)) := by
  simp only [putF, if_neg hF_n0_2, if_neg hF_n1_2, if_true]
theorem hF_make3 {v0 v1 v2 v3 : V} : putF "asked" v3 ([("me", v0), ("shop", v1), ("answers", v2)] : List (Str × V)) = ([("me", v0), ("shop", v1), ("answers", v2), ("asked", v3)] : List (Str × V)) := by
  simp only [putF, if_neg hF_n0_3, if_neg hF_n1_3, if_neg hF_n2_3, if_true]
theorem hF_make4 {v0 v1 v2 v3 v4 : V} : putF "mine" v4 ([("me", v0), ("shop", v1), ("answers", v2), ("asked", v3)] : List (Str × V)) = ([("me", v0), ("shop", v1), ("answers", v2), ("asked", v3), ("mine", v4)] : List (Str × V)) := by
  simp only [putF, if_neg hF_n0_4, if_neg hF_n1_4, if_neg hF_n2_4, if_neg hF_n3_4, if_true]
theorem hF_make5 {v0 v1 v2 v3 v4 v5 : V} : putF "words" v5 ([("me", v0), ("shop", v1), ("answers", v2), ("asked", v3), ("mine", v4)] : List (Str × V)) = ([("me", v0), ("shop", v1), ("answers", v2), ("asked", v3), ("mine", v4), ("words", v5)] : List (Str × V)) := by
  simp only [putF, if_neg hF_n0_5, if_neg hF_n1_5, if_neg hF_n2_5, if_neg hF_n3_5, if_neg hF_n4_5, if_true]
theorem hF_make6 {v0 v1 v2 v3 v4 v5 v6 : V} : putF "pending" v6 ([("me", v0), ("shop", v1), ("answers", v2), ("asked", v3), ("mine", v4), ("words", v5)] : List (Str × V)) = ([("me", v0), ("shop", v1), ("answers", v2), ("asked", v3), ("mine", v4), ("words", v5), ("pending", v6)] : List (Str × V)) := by
  simp only [putF, if_neg hF_n0_6, if_neg hF_n1_6, if_neg hF_n2_6, if_neg hF_n3_6, if_neg hF_n4_6, if_neg hF_n5_6, if_true]
theorem hF_make7 {v0 v1 v2 v3 v4 v5 v6 v7 : V} : putF "end" v7 ([("me", v0), ("shop", v1), ("answers", v2), ("asked", v3), ("mine", v4), ("words", v5), ("pending", v6)] : List (Str × V)) = ([("me", v0), ("shop", v1), ("answers", v2), ("asked", v3), ("mine", v4), ("words", v5), ("pending", v6), ("end", v7)] : List (Str × V)) := by
  simp only [putF, if_neg hF_n0_7, if_neg hF_n1_7, if_neg hF_n2_7, if_neg hF_n3_7, if_neg hF_n4_7, if_neg hF_n5_7, if_neg hF_n6_7, if_true]
theorem hF_make8 {v0 v1 v2 v3 v4 v5 v6 v7 v8 : V} : putF "halted" v8 ([("me", v0), ("shop", v1), ("answers", v2), ("asked", v3), ("mine", v4), ("words", v5), ("pending", v6), ("end", v7)] : List (Str × V)) = ([("me", v0), ("shop", v1), ("answers", v2), ("asked", v3), ("mine", v4), ("words", v5), ("pending", v6), ("end", v7), ("halted", v8)] : List (Str × V)) := by
  simp only [putF, if_neg hF_n0_8, if_neg hF_n1_8, if_neg hF_n2_8, if_neg hF_n3_8, if_neg hF_n4_8, if_neg hF_n5_8, if_neg hF_n6_8, if_neg hF_n7_8, if_true]
theorem hF_no {v0 v1 v2 v3 v4 v5 v6 v7 v8 : V} {m : Str} (h0 : ¬ m = ("me" : Str)) (h1 : ¬ m = ("shop" : Str)) (h2 : ¬ m = ("answers" : Str)) (h3 : ¬ m = ("asked" : Str)) (h4 : ¬ m = ("mine" : Str)) (h5 : ¬ m = ("words" : Str)) (h6 : ¬ m = ("pending" : Str)) (h7 : ¬ m = ("end" : Str)) (h8 : ¬ m = ("halted" : Str)) : (hF v0 v1 v2 v3 v4 v5 v6 v7 v8).lookup m = none := by
  unfold hF
  rw [lookup_put, if_neg h0, lookup_put, if_neg h1, lookup_put, if_neg h2, lookup_put, if_neg h3, lookup_put, if_neg h4, lookup_put, if_neg h5, lookup_put, if_neg h6, lookup_put, if_neg h7, lookup_put, if_neg h8]
  rfl
end TW
namespace TW
open PySem PySem.Spec PyProof.Rows L2
/-- an own error with one field, as the top has written it, and its __init__ -/
structure Err1 (P : Program) (w : World) (K : PySem.W.Frag) (mg : Str → Option Value) (base : Heap) (x f : Str) (C : Addr) : Prop where
  ex : ∃ (fI : Addr) (fd : FuncData), ErrC K C fI f fd ∧ FnOk P w K mg base CX0 1 fI fd ["self", f] (spErrI C f)
  m : mg x = some (.ref C)
/-- Held: an own error without __init__ -/
structure Err0 (K : PySem.W.Frag) (mg : Str → Option Value) (x : Str) (C : Addr) : Prop where
  q : PySem.W.excIn K C [.type "Exception", .type "BaseException", .type "object"] "Exception.__new__" = true
  m : mg x = some (.ref C)
  k : PySem.W.keepIn K (.ref C) = true
  b : PySem.W.subIn K (.ref C) (.type "BaseException") = some true
  t : PySem.W.typeIn K (.ref C) = some (.type "type")
abbrev EX (E : XK) (C : Addr) (f : Str) (v : V) (H : Hp) : Prop := ∀ d, H d = none → E (.ref C) (some d) (upd H d (.xd [(f, v)]))
/-! ### check_value -/
def spCkV (K : PySem.W.Frag) (C : Addr) (n : Nat) : Sp := fun vs H Q E => ∃ (x : V) (b : Bool), vs = [x] ∧ Vn K H n x b ∧ ∀ H', Same H H' → (b = true → Q .non H') ∧ (b = false → EX E C "value" x H')
abbrev sCkV : Stmt := top 19
abbrev sCkT : Stmt := top 20
abbrev sGoing : Stmt := top 22
abbrev sHalt : Stmt := top 24
abbrev sAsk : Stmt := top 25
/-- the names of things: a dict's keys or a tuple's items -/
def Names (K : PySem.W.Frag) (H : Hp) (x : V) (l : List Str) : Prop := (∃ a kvs, x = .ref a ∧ Rd H a (.dK kvs) ∧ kvs.map (·.1) = l.map Sum.inr) ∨ ∃ a, x = .ref a ∧ SqT K H a (l.map V.str)
/-- whether y is one of them -/
def Among (K : PySem.W.Frag) (H : Hp) (l : List Str) (y : V) (b : Bool) : Prop := (∃ s, y = .str s ∧ b = decide (s ∈ l)) ∨ (b = false ∧ ∃ T, (∀ H', Same H H' → TyX K H' y (.type T)) ∧ kitB T "str" = some false)
def spCkT (K : PySem.W.Frag) (C : Addr) : Sp := fun vs H Q E => ∃ (x y : V) (l : List Str) (b : Bool), vs = [x, y] ∧ Names K H x l ∧ Among K H l y b ∧ (b = true → Q .non H) ∧ (b = false → EX E C "name" y H)
/-- raise C(e) -/
def tRaiseE (C : Addr) (f : Str) (W : WX) (ta : TA) : TS := fun _ σ H => tMkE C f ta σ H fun cls d H' => W cls d σ H'
section
variable {X : Cx}
/-- y not in x: a dict's keys, or a tuple's items -/
theorem op_notIn_any (hu : X.A.units + 1 < cLine) : OpR X (compareOp .NotIn) (fun y x H Q => (∃ a o, x = .ref a ∧ DGet H a y o ∧ Q (.bl (!o.isSome)) H) ∨ rIn X.K true y x H Q) := by
  intro pins s σ H y x v u Q I ry rx h
  rcases h with ⟨a, o, rfl, g, q⟩ | h
  · cases (show u = Value.ref a from rx)
    exact d_notIn hu I g ry fun s3 I3 => ⟨.bl (!o.isSome), H, I3, rfl, q⟩
  · exact op_notIn_seq pins s σ H y x v u Q I ry rx h
end
section
variable {P : Program} {w : World} {K : PySem.W.Frag} {mg : Str → Option Value} {base : Heap}
theorem scCkV : FnScope ["given"] ["given"] (defScope sCkV) := ⟨rfl, rfl, rfl, by decide +kernel, rfl, by decide +kernel, by decide +kernel⟩
theorem ok_ckV {f fV C : Addr} {fd fdV : FuncData} {n : Nat} (F : Fun K "check_value" "check_value" sCkV f fd) (G : FnOk P w K mg base CX0 (n + 1) fV fdV ["given"] (spIsV K n)) (mV : mg "is_value" = some (.ref fV)) (kV : PySem.W.keepIn K (.ref fV) = true) (bV : Binds K fdV ["given"] [])
    (Z : Err1 P w K mg base "BadValue" "value" C) : FnOk P w K mg base (L2.CX P w) (n + 3) f fd ["given"] (spCkV K C n) := by
  obtain ⟨fI, fdI, z, g⟩ := Z.ex
  refine F.okX scCkV (fun vs H Q E h => ?_) (fun cdv A outer s H vs Q E hr h => ?_)
  · obtain ⟨x, b, rfl, _⟩ := h
    rfl
  · obtain ⟨x, b, rfl, hV, k⟩ := h
    have hr1 : Room (n + 1) _ := hr.mono (by omega)
    have hr2 : Room 2 _ := hr.mono (by omega)
    refine ⟨_, pss_one (ps_if (pt_not (pt_val (pe_call G hr1 rfl mV kV bV .nil pass0 (pa_cons (pv 0) pa_nil)))) (pss_one (ps_raise rfl (takes_of (E := E) rfl rfl rfl rfl) (pmk_err z g hr2 Z.m (pa_cons (pv 0) pa_nil)))) pss_nil), ?_⟩
    refine ⟨_, rfl, x, b, rfl, hV, fun H' e => ⟨_, rfl, ?_⟩⟩
    cases b with
    | true =>
      refine iteF ?_
      exact (k H' e).1 rfl
    | false =>
      refine iteT ?_
      exact ⟨_, rfl, x, rfl, fun d hd => (k H' e).2 rfl d hd⟩
theorem scCkT : FnScope ["names", "name"] ["names", "name"] (defScope sCkT) := ⟨rfl, rfl, rfl, by decide +kernel, rfl, by decide +kernel, by decide +kernel⟩
theorem valV_keys {kvs : List (Key × V)} {l : List Str} (h : kvs.map (·.1) = l.map Sum.inr) (s : Str) : (valV kvs (Sum.inr s)).isSome = decide (s ∈ l) := by
  induction kvs generalizing l with
  | nil =>
    cases l with
    | nil => simp [valV]
    | cons t r => cases h
  | cons p r ih =>
    cases l with
    | nil => cases h
    | cons t l =>
      rw [List.map_cons, List.map_cons] at h
      obtain ⟨h1, h2⟩ := List.cons.inj h
      have e := ih h2
      unfold valV at e ⊢
      rw [List.find?_cons, h1]
      by_cases c : s = t
      · subst c
        simp
      · have n1 : decide ((Sum.inr t : Key) = Sum.inr s) = false := decide_eq_false fun z => c (Sum.inr.inj z).symm
        rw [n1]
        have n2 : decide (s ∈ t :: l) = decide (s ∈ l) := by
          simp [c]
        rw [n2]
        exact e
theorem inV_strs (s : Str) (l : List Str) : inV (.str s) (l.map V.str) = decide (s ∈ l) := by
  unfold inV
  induction l with
  | nil => simp
  | cons t l ih =>
    rw [List.map_cons, List.any_cons, ih]
    by_cases c : s = t
    · subst c
      simp [eqV]
    · have n1 : eqV (.str t) (.str s) = false := by
        show (t == s) = false
        exact beq_false_of_ne fun z => c z.symm
      rw [n1]
      simp [c]
theorem flat_strs (l : List Str) : (l.map V.str).all flatV = true := by
  rw [List.all_map]
  exact List.all_eq_true.mpr fun _ _ => rfl
theorem ok_ckT {f C : Addr} {fd : FuncData} (F : Fun K "check_thing" "check_thing" sCkT f fd) (B : Blt mg) (Z : Err1 P w K mg base "NoThing" "name" C) : FnOk P w K mg base (L2.CX P w) 3 f fd ["names", "name"] (spCkT K C) := by
  obtain ⟨fI, fdI, z, g⟩ := Z.ex
  refine F.okX scCkT (fun vs H Q E h => ?_) (fun cdv A outer s H vs Q E hr h => ?_)
  · obtain ⟨x, y, l, b, rfl, _⟩ := h
    rfl
  · obtain ⟨x, y, l, b, rfl, hN, hA, k1, k2⟩ := h
    refine ⟨_, pss_one (ps_if (PW.pt (pw_or (pt_not (pt_val (pe_callB call_isi (by rfl) B.isi (by decide +kernel) (pa_cons (pv 1) (pa_cons (pe_bltn (v := .ty "str") (by rfl) B.str (by decide +kernel) rfl) pa_nil)))))
        (pw_or1 (pt_cmpR (op_notIn_any (hu_of hr)) (pv 1) (pv 0) (by rfl))))) (pss_one (ps_raise rfl (takes_of (E := E) rfl rfl rfl rfl) (pmk_err z g hr Z.m (pa_cons (pv 1) pa_nil)))) pss_nil), ?_⟩
    rcases hA with ⟨s, rfl, rfl⟩ | ⟨rfl, T, ty, kt⟩
    · refine ⟨_, rfl, _, _, _, _, _, rfl, .ty _, .base (.str s), kit_ty (r := true) (by decide +kernel), _, rfl, ?_⟩
      refine iteF ?_
      have fin : ∀ b, b = decide (s ∈ l) → (if (!b) = true then tRaiseE C "name" (fun cls d _ H => E cls d H) (tCons (tVar 1) tNil) { nx := fun _ H' => Q .non H', rt := Q } (L2.start ["names", "name"] [x, .str s]) H else Q .non H) := by
        rintro b rfl
        by_cases c : s ∈ l
        · rw [decide_eq_true c]
          exact iteF (k1 (decide_eq_true c))
        · rw [decide_eq_false c]
          exact iteT ⟨_, rfl, _, rfl, fun d hd => k2 (decide_eq_false c) d hd⟩
      rcases hN with ⟨a, kvs, rfl, hd, hk⟩ | ⟨a, rfl, hq⟩
      · exact ⟨_, rfl, _, rfl, .inl ⟨a, _, rfl, .inl ⟨kvs, Sum.inr s, hd, rfl, rfl⟩, _, rfl, fin _ (valV_keys hk s)⟩⟩
      · exact ⟨_, rfl, _, rfl, .inr ⟨a, _, rfl, .inr hq, rfl, flat_strs l, _, rfl, fin _ (inV_strs s l)⟩⟩
    · refine ⟨_, rfl, _, _, _, _, _, rfl, .ty _, ty _ (Same.refl _), kit_ty kt, _, rfl, ?_⟩
      refine iteT (iteT ?_)
      exact ⟨_, rfl, _, rfl, fun d hd => k2 rfl d hd⟩
end
end TW
namespace TW
open PySem PySem.Spec PyProof.Rows L2
/-- a hand between two rows of its methods -/
structure HS where
  me : Int
  sh : Addr
  an : Addr
  ans : List V
  asked : Nat
  md : Addr
  mine : List (Key × V)
  wl : Addr
  words : List V
  pend : V
  fin : V
  halted : Bool
def HS.fs (h : HS) : List (Str × V) := hF (.int h.me) (.ref h.sh) (.ref h.an) (.int (h.asked : Int)) (.ref h.md) (.ref h.wl) h.pend h.fin (.bl h.halted)
structure HandAt (K : PySem.W.Frag) (C : Addr) (H : Hp) (hd dx : Addr) (h : HS) : Prop where
  ob : H hd = some (.ins C dx h.fs)
  a : SqT K H h.an h.ans
  m : H h.md = some (.dK h.mine)
  w : H h.wl = some (.lst h.words)
/-- what the top has written of the class Hand -/
structure HTxt (K : PySem.W.Frag) (C : Addr) : Prop where
  cl : Cls K C
  me : NoAttr K C "me"
  shop : NoAttr K C "shop"
  answers : NoAttr K C "answers"
  asked : NoAttr K C "asked"
  mine : NoAttr K C "mine"
  words : NoAttr K C "words"
  pending : NoAttr K C "pending"
  end_ : NoAttr K C "end"
  halted : NoAttr K C "halted"
section
variable {K : PySem.W.Frag} {C : Addr} {H H' : Hp} {hd dx : Addr} {h h' : HS}
theorem seqT_ins {a : Addr} {xs : List V} {fs gs : List (Str × V)} (e : H hd = some (.ins C dx fs)) (q : SqT K H a xs) : SqT K (upd H hd (.ins C dx gs)) a xs := by
  have ne : ∀ {b : Addr} {o : HO}, H b = some o → (∀ gs, o ≠ .ins C dx gs) → b ≠ hd := fun {b o} z n y => by
    rw [y, e] at z
    exact n _ (Option.some.inj z).symm
  rcases q with (q | ⟨o, q⟩) | q
  · exact .inl (.inl (by rw [upd_ne (ne q (fun _ z => by cases z))]; exact q))
  · exact .inl (.inr ⟨o, by rw [upd_ne (ne q (fun _ z => by cases z))]; exact q⟩)
  · exact .inr q
/-- a plain field is stored -/
theorem HandAt.set (A : HandAt K C H hd dx h) (h1 : h'.an = h.an ∧ h'.ans = h.ans ∧ h'.md = h.md ∧ h'.mine = h.mine ∧ h'.wl = h.wl ∧ h'.words = h.words) : HandAt K C (upd H hd (.ins C dx h'.fs)) hd dx h' := by
  obtain ⟨e1, e2, e3, e4, e5, e6⟩ := h1
  refine ⟨upd_same, ?_, ?_, ?_⟩
  · rw [e1, e2]
    exact seqT_ins A.ob A.a
  · rw [e3, e4, upd_ne (ne_of A.m A.ob (by intro z; cases z))]
    exact A.m
  · rw [e5, e6, upd_ne (ne_of A.w A.ob (by intro z; cases z))]
    exact A.w
theorem HandAt.same (e : Same H H') (A : HandAt K C H hd dx h) : HandAt K C H' hd dx h := ⟨e _ _ A.ob, seqT_same e A.a, e _ _ A.m, e _ _ A.w⟩
end
def spGoing (K : PySem.W.Frag) (C CH : Addr) : Sp := fun vs H Q E => ∃ (hd dx : Addr) (h : HS), vs = [.ref hd] ∧ HandAt K C H hd dx h ∧ (h.halted = false → Q .non H) ∧ (h.halted = true → E (.ref CH) none H)
def spHalt (K : PySem.W.Frag) (C CH : Addr) : Sp := fun vs H Q E => ∃ (hd dx : Addr) (h : HS), vs = [.ref hd] ∧ HandAt K C H hd dx h ∧ E (.ref CH) none (upd H hd (.ins C dx { h with halted := true }.fs))
def spAsk (K : PySem.W.Frag) (C CH : Addr) : Sp := fun vs H Q E => ∃ (hd dx : Addr) (h : HS) (wish : V), vs = [.ref hd, wish] ∧ HandAt K C H hd dx h ∧ h.asked ≤ h.ans.length ∧ h.ans.length ≤ 1000 ∧
  (∀ v, h.ans[h.asked]? = some v → Q v (upd H hd (.ins C dx { h with asked := h.asked + 1 }.fs))) ∧ (h.asked = h.ans.length → E (.ref CH) none (upd H hd (.ins C dx { h with pend := wish, halted := true }.fs)))
section
variable {P : Program} {w : World} {K : PySem.W.Frag} {mg : Str → Option Value} {base : Heap} {C CH : Addr}
theorem scGoing : FnScope ["hand"] ["hand"] (defScope sGoing) := ⟨rfl, rfl, rfl, by decide +kernel, rfl, by decide +kernel, by decide +kernel⟩
theorem ok_going {f : Addr} {fd : FuncData} (F : Fun K "check_going" "check_going" sGoing f fd) (T : HTxt K C) (Z : Err0 K mg "Held" CH) : FnOk P w K mg base (L2.CX P w) 1 f fd ["hand"] (spGoing K C CH) := by
  refine F.okX scGoing (fun vs H Q E h => ?_) (fun cdv A outer s H vs Q E hr h => ?_)
  · obtain ⟨hd, dx, h, rfl, _⟩ := h
    rfl
  · obtain ⟨hd, dx, h, rfl, hA, k1, k2⟩ := h
    refine ⟨_, pss_one (ps_if (pt_val (pe_fld (pv 0) rfl)) (pss_one (ps_raise rfl (takes_of (E := E) rfl rfl rfl rfl) (pmk_exc0 PySem.F.excBase_Exception Z.q Z.m Z.k (raises_own Z.b Z.t)))) pss_nil), ?_⟩
    refine ⟨_, rfl, hd, C, dx, _, _, rfl, hA.ob, T.cl, T.halted, hF_get8, _, rfl, ?_⟩
    cases e : h.halted with
    | true => exact iteT (k2 e)
    | false => exact iteF (k1 e)
theorem scHalt : FnScope ["hand"] ["hand"] (defScope sHalt) := ⟨rfl, rfl, rfl, by decide +kernel, rfl, by decide +kernel, by decide +kernel⟩
theorem few9 {a b c d e f g i j : V} : (hF a b c d e f g i j).length < 1000 := by
  show 9 < 1000
  decide
theorem ok_halt {f : Addr} {fd : FuncData} (F : Fun K "halt" "halt" sHalt f fd) (T : HTxt K C) (Z : Err0 K mg "Held" CH) : FnOk P w K mg base (L2.CX P w) 1 f fd ["hand"] (spHalt K C CH) := by
  refine F.okX scHalt (fun vs H Q E h => ?_) (fun cdv A outer s H vs Q E hr h => ?_)
  · obtain ⟨hd, dx, h, rfl, _⟩ := h
    rfl
  · obtain ⟨hd, dx, h, rfl, hA, k⟩ := h
    refine ⟨_, pss_cons (ps_fld (pv 0) pe_bl rfl) (pss_one (ps_raise rfl (takes_of (E := E) rfl rfl rfl rfl) (pmk_exc0 PySem.F.excBase_Exception Z.q Z.m Z.k (raises_own Z.b Z.t)))), ?_⟩
    refine ⟨_, rfl, hd, C, dx, _, rfl, hA.ob, T.cl, T.halted, few9, ?_⟩
    unfold HS.fs at k ⊢
    rw [hF_put8]
    exact k
theorem scAsk : FnScope ["hand", "wish", "answer"] ["hand", "wish"] (defScope sAsk) := ⟨rfl, rfl, rfl, by decide +kernel, rfl, by decide +kernel, by decide +kernel⟩
theorem ok_ask {f fH : Addr} {fd fdH : FuncData} (F : Fun K "ask" "ask" sAsk f fd) (B : Blt mg) (T : HTxt K C) (G : FnOk P w K mg base (L2.CX P w) 1 fH fdH ["hand"] (spHalt K C CH)) (mH : mg "halt" = some (.ref fH)) (kH : PySem.W.keepIn K (.ref fH) = true) (bH : Binds K fdH ["hand"] []) :
    FnOk P w K mg base (L2.CX P w) 2 f fd ["hand", "wish"] (spAsk K C CH) := by
  refine F.okX scAsk (fun vs H Q E h => ?_) (fun cdv A outer s H vs Q E hr h => ?_)
  · obtain ⟨hd, dx, h, wish, rfl, _⟩ := h
    rfl
  · obtain ⟨hd, dx, h, wish, rfl, hA, le, few, k1, k2⟩ := h
    refine ⟨_, pss_cons (ps_if (pt_cmpR op_eq (pe_fld (pv 0) rfl) (pe_callB call_len_seq (by rfl) B.len PySem.boot_len (pa_cons (pe_fld (pv 0) rfl) pa_nil)) (nomark _))
        (pss_cons (ps_fld (pv 0) (pv 1) rfl) (pss_one (ps_expr (pe_callS G hr rfl mH kH bH (fun σ => passAt (takes_of (E := E) rfl rfl rfl rfl) σ) (pa_cons (pv 0) pa_nil))))) pss_nil)
      (pss_cons (ps_set (i := 2) scAsk.nd rfl (.inl rfl) (pe_ix ix_tup (pe_fld (pv 0) rfl) (pe_fld (pv 0) rfl) (fun _ _ => rfl)))
      (pss_cons (ps_fldaug (pv 0) pe_int in_add)
      (pss_one (ps_ret (pv 2))))), ?_⟩
    refine ⟨_, rfl, hd, C, dx, _, _, rfl, hA.ob, T.cl, T.asked, hF_get3, _, rfl, hd, C, dx, _, _, rfl, hA.ob, T.cl, T.answers, hF_get2, h.an, _, rfl, .inr hA.a, rfl, _, rfl, ?_⟩
    by_cases c : h.asked = h.ans.length
    · rw [decide_eq_true (by rw [c])]
      refine iteT ?_
      refine ⟨_, rfl, _, rfl, hd, C, dx, _, rfl, hA.ob, T.cl, T.pending, few9, ?_⟩
      have e := k2 c
      have hB : HandAt K C (upd H hd (.ins C dx { h with pend := wish }.fs)) hd dx { h with pend := wish } := hA.set ⟨rfl, rfl, rfl, rfl, rfl, rfl⟩
      unfold HS.fs at hB ⊢
      rw [hF_put6]
      refine ⟨_, rfl, hd, dx, { h with pend := wish }, rfl, hB, ?_⟩
      rw [upd_upd]
      exact e
    · rw [decide_eq_false (by intro z; apply c; have := V.int.inj z; omega)]
      refine iteF ?_
      have lt : h.asked < h.ans.length := by omega
      have hv : h.ans[h.asked]? = some h.ans[h.asked] := List.getElem?_eq_getElem lt
      refine ⟨_, rfl, hd, C, dx, _, _, rfl, hA.ob, T.cl, T.answers, hF_get2, _, rfl, hd, C, dx, _, _, rfl, hA.ob, T.cl, T.asked, hF_get3, h.an, _, _, _, rfl, rfl, hA.a, atI_nat hv, ?_⟩
      refine ⟨_, rfl, hd, C, dx, _, _, rfl, hA.ob, T.cl, T.asked, hF_get3, _, _, rfl, rfl, _, _, hA.ob, few9, ?_⟩
      have e := k1 _ hv
      unfold HS.fs at e ⊢
      rw [hF_put3]
      exact ⟨_, rfl, e⟩
end
end TW
namespace TW
open PySem PySem.Spec PyProof.Rows L2
section
variable {X : Cx} {CX : CXT} {k : Nat} {f : Addr} {sp : Sp} {E : XK} {x : Str} {p pos : Pos} {e : Expr} {es : List Expr} {t : TA}
/-- x(e, ..), x a def told by what it does with the values that come -/
theorem pe_callR (F : FnR X.prog X.w X.K X.mg X.base CX k f sp) (hr : Room k X.A) (hk : PySem.W.keepIn X.K (.ref f) = true) (hg : Gl X x) (hm : X.mg x = some (.ref f)) (hx : Passes CX X E) (ha : PA X (e :: es) t) (hd : (x == ("__debug__" : Str)) = false := by decide)
    (he : starEach (e :: es) X.env = (false, eval e X.env) :: starEach es X.env := by rfl) (hpl : (backTo pos (starEach es X.env)).any (·.1) = false := by rfl) :
    PE X (.Call (.Name x p) (e :: es) [] pos) (fun σ H Q => t σ H fun vs H1 => sp vs H1 Q E) := by
  refine ⟨fun pins s σ H Q I h => ?_⟩
  refine wpAny_Call_Name_kw (ld_glob I hg hm ?_ hd)
  refine PySem.W.callWith_K (h₀ := X.base) I.ok.mod.kin hk (thn (ha.run pos pins s σ H _ I h) fun us s1 ⟨vs, H1, I1, r, q⟩ => ⟨I1.kIn, ?_⟩) he hpl
  exact wpAny_call (run_fnR F hr hx I1 r q)
end
theorem bind_star3 {B : List Value → Sem (List (Str × Value))} {p1 p2 p3 pv : Str} (h0 : ∀ a b c, B [a, b, c] = (newTuple [] >>= fun t => pure [(p1, a), (p2, b), (p3, c), (pv, t)])) (h1 : ∀ a b c r rs, B (a :: b :: c :: r :: rs) = (newTuple (r :: rs) >>= fun t => pure [(p1, a), (p2, b), (p3, c), (pv, t)])) :
    ∀ us rest : List Value, us.length = [p1, p2, p3].length → B (us ++ rest) = (newTuple rest >>= fun t => pure ([p1, p2, p3].zip us ++ [(pv, t)]))
  | [a, b, c], [], _ => h0 a b c
  | [a, b, c], r :: rs, _ => h1 a b c r rs
abbrev sCall : Stmt := top 23
/-- the errors of a call in their order, else nothing -/
def spCallB (K : PySem.W.Frag) (C CH CN CV : Addr) (n : Nat) : Sp := fun vs H Q E => ∃ (hd dx tp : Addr) (h : HS) (x y : V) (l : List Str) (b : Bool) (rest : List V) (cs : List Bool), vs = [.ref hd, x, y, .ref tp] ∧ H tp = some (.tup rest) ∧ rest.length = cs.length ∧ rest.length ≤ 1000 ∧ HandAt K C H hd dx h ∧ Names K H x l ∧ Among K H l y b ∧
  (∀ (i : Nat) (r : V) (c : Bool), rest[i]? = some r → cs[i]? = some c → Vn K H n r c) ∧ (h.halted = true → E (.ref CH) none H) ∧ (h.halted = false → b = false → EX E CN "name" y H) ∧
  (h.halted = false → b = true → ∀ H', Same H H' → (∀ (i : Nat) (r : V), rest[i]? = some r → cs[i]? = some false → (∀ j, j < i → cs[j]? = some true) → EX E CV "value" r H') ∧ (cs.all id = true → Q .non H'))
section
variable {P : Program} {w : World} {K : PySem.W.Frag} {mg : Str → Option Value} {base : Heap} {C CH CN CV : Addr}
theorem scCall : FnScope ["hand", "names", "name", "given", "value"] (([("hand" : Str), "names", "name"] : List Str) ++ [("given" : Str)]) (defScope sCall) := ⟨rfl, rfl, rfl, by decide +kernel, rfl, by decide +kernel, by decide +kernel⟩
theorem ok_call {f fG fT fV : Addr} {fd fdG fdT fdV : FuncData} {n : Nat} (F : Fun K "check_call" "check_call" sCall f fd)
    (GG : FnOk P w K mg base (L2.CX P w) 1 fG fdG ["hand"] (spGoing K C CH)) (mG : mg "check_going" = some (.ref fG)) (kG : PySem.W.keepIn K (.ref fG) = true) (bG : Binds K fdG ["hand"] [])
    (GT : FnOk P w K mg base (L2.CX P w) 3 fT fdT ["names", "name"] (spCkT K CN)) (mT : mg "check_thing" = some (.ref fT)) (kT : PySem.W.keepIn K (.ref fT) = true) (bT : Binds K fdT ["names", "name"] [])
    (GV : FnOk P w K mg base (L2.CX P w) (n + 3) fV fdV ["given"] (spCkV K CV n)) (mV : mg "check_value" = some (.ref fV)) (kV : PySem.W.keepIn K (.ref fV) = true) (bV : Binds K fdV ["given"] []) :
    FnR P w K mg base (L2.CX P w) (n + 4) f (fun vs H Q E => ∃ ws rest, vs = ws ++ rest ∧ ws.length = (["hand", "names", "name"] : List Str).length ∧ rest.length ≤ sizeLine ∧ ∀ p, H p = Option.none → spCallB K C CH CN CV n (ws ++ [V.ref p]) (upd H p (.tup rest)) Q E) := by
  obtain ⟨oc, od, kVV, doc, pm, an, cdv, ct, osl, rfl, lk, hcd⟩ := F.ex
  refine StX.fn_star (ps := ["hand", "names", "name"]) (pv := "given") lk hcd scCall StX.cxUp (bind_star3 (B := fun us => bindArgs (PySem.W.fnOf "check_call" "check_call" (defArgs sCall) (defBody sCall) (defScope sCall) .none kVV doc pm an cdv ct) ⟨us, []⟩) (fun _ _ _ => rfl) (fun _ _ _ _ _ => rfl)) fun A outer s H vs Q E hr h => ?_
  obtain ⟨hd, dx, tp, h, x, y, l, b, rest, cs, rfl, htp, hlen, few, hA, hN, hY, hR, k1, k2, k3⟩ := h
  have hr1 : Room 1 _ := hr.mono (by omega)
  have hr3 : Room 3 _ := hr.mono (by omega)
  refine ⟨_, pss_cons (ps_expr (pe_callS GG hr1 rfl mG kG bG (fun σ => passAt (takes_of (E := E) rfl rfl rfl rfl) σ) (pa_cons (pv 0) pa_nil)))
    (pss_cons (ps_expr (pe_callS GT hr3 rfl mT kT bT (fun σ => passAt (takes_of (E := E) rfl rfl rfl rfl) σ) (pa_cons (pv 1) (pa_cons (pv 2) pa_nil))))
    (pss_one (ps_for (passes_of rfl) rfl (pi_tup (pv 3)) (pg_name (i := 4) scCall.nd rfl (Or.inl rfl))
      (pss_one (ps_expr (pe_callS GV hr rfl mV kV bV (fun σ => passAt (takes_of (E := E) rfl rfl rfl rfl) σ) (pa_cons (pv 4) pa_nil))))))), ?_⟩
  refine ⟨_, rfl, hd, dx, h, rfl, hA, fun nh => ?_, fun hh => k1 hh⟩
  refine ⟨_, rfl, _, rfl, x, y, l, b, rfl, hN, hY, fun hb => ?_, fun hb => k2 nh hb⟩
  refine ⟨_, rfl, tp, rfl, ⟨_, SqT.of htp⟩, ?_⟩
  refine for_tup (K := K) (a := tp) (xs := rest) (fun i σ H' => (∃ v : Option V, σ = [some (.ref hd), some x, some y, some (.ref tp), v]) ∧ Same H H' ∧ ∀ j, j < i → cs[j]? = some true) ⟨⟨_, rfl⟩, Same.refl _, fun j hj => absurd hj (Nat.not_lt_zero j)⟩ (fun i σ H' _ z => SqT.of (z.2.1 _ _ htp)) ?_ ?_
  · rintro i r σ H' hi ⟨⟨v, rfl⟩, e, g⟩
    have lt : i < cs.length := hlen ▸ (List.getElem?_eq_some_iff.mp hi).1
    have hc : cs[i]? = some cs[i] := List.getElem?_eq_getElem lt
    refine ⟨_, rfl, r, cs[i], rfl, (hR i r _ hi hc).same e, fun H2 e2 => ⟨fun c => ?_, fun c => ?_⟩⟩
    · refine ⟨⟨_, rfl⟩, e.trans e2, fun j hj => ?_⟩
      by_cases q : j = i
      · rw [q, hc, c]
      · exact g j (by omega)
    · exact (k3 nh hb H2 (e.trans e2)).1 i r hi (by rw [hc, c]) g
  · rintro σ H' ⟨⟨v, rfl⟩, e, g⟩
    refine (k3 nh hb H' e).2 (List.all_eq_true.mpr fun c hc => ?_)
    obtain ⟨j, hj, q⟩ := List.getElem_of_mem hc
    have z := g j (hlen ▸ hj)
    rw [List.getElem?_eq_getElem hj, q] at z
    exact Option.some.inj z
end
end TW
namespace TW
open PySem PySem.Spec PyProof.Rows L2
theorem sF_n0_1 : ¬ (("works" : Str) = "cells") := by decide +kernel
theorem sF_n0_2 : ¬ (("works" : Str) = "locks") := by decide +kernel
theorem sF_n0_3 : ¬ (("works" : Str) = "belts") := by decide +kernel
theorem sF_n0_4 : ¬ (("works" : Str) = "many") := by decide +kernel
theorem sF_n0_5 : ¬ (("works" : Str) = "longest") := by decide +kernel
theorem sF_n0_6 : ¬ (("works" : Str) = "most") := by decide +kernel
theorem sF_n1_0 : ¬ (("cells" : Str) = "works") := by decide +kernel
theorem sF_n1_2 : ¬ (("cells" : Str) = "locks") := by decide +kernel
theorem sF_n1_3 : ¬ (("cells" : Str) = "belts") := by decide +kernel
theorem sF_n1_4 : ¬ (("cells" : Str) = "many") := by decide +kernel
theorem sF_n1_5 : ¬ (("cells" : Str) = "longest") := by decide +kernel
theorem sF_n1_6 : ¬ (("cells" : Str) = "most") := by decide +kernel
theorem sF_n2_0 : ¬ (("locks" : Str) = "works") := by decide +kernel
theorem sF_n2_1 : ¬ (("locks" : Str) = "cells") := by decide +kernel
theorem sF_n2_3 : ¬ (("locks" : Str) = "belts") := by decide +kernel
theorem sF_n2_4 : ¬ (("locks" : Str) = "many") := by decide +kernel
theorem sF_n2_5 : ¬ (("locks" : Str) = "longest") := by decide +kernel
theorem sF_n2_6 : ¬ (("locks" : Str) = "most") := by decide +kernel
theorem sF_n3_0 : ¬ (("belts" : Str) = "works") := by decide +kernel
theorem sF_n3_1 : ¬ (("belts" : Str) = "cells") := by decide +kernel
theorem sF_n3_2 : ¬ (("belts" : Str) = "locks") := by decide +kernel
theorem sF_n3_4 : ¬ (("belts" : Str) = "many") := by decide +kernel
theorem sF_n3_5 : ¬ (("belts" : Str) = "longest") := by decide +kernel
theorem sF_n3_6 : ¬ (("belts" : Str) = "most") := by decide +kernel
theorem sF_n4_0 : ¬ (("many" : Str) = "works") := by decide +kernel
theorem sF_n4_1 : ¬ (("many" : Str) = "cells") := by decide +kernel
theorem sF_n4_2 : ¬ (("many" : Str) = "locks") := by decide +kernel
theorem sF_n4_3 : ¬ (("many" : Str) = "belts") := by decide +kernel
theorem sF_n4_5 : ¬ (("many" : Str) = "longest") := by decide +kernel
theorem sF_n4_6 : ¬ (("many" : Str) = "most") := by decide +kernel
theorem sF_n5_0 : ¬ (("longest" : Str) = "works") := by decide +kernel
theorem sF_n5_1 : ¬ (("longest" : Str) = "cells") := by decide +kernel
theorem sF_n5_2 : ¬ (("longest" : Str) = "locks") := by decide +kernel
theorem sF_n5_3 : ¬ (("longest" : Str) = "belts") := by decide +kernel
theorem sF_n5_4 : ¬ (("longest" : Str) = "many") := by decide +kernel
theorem sF_n5_6 : ¬ (("longest" : Str) = "most") := by decide +kernel
theorem sF_n6_0 : ¬ (("most" : Str) = "works") := by decide +kernel
theorem sF_n6_1 : ¬ (("most" : Str) = "cells") := by decide +kernel
theorem sF_n6_2 : ¬ (("most" : Str) = "locks") := by decide +kernel
theorem sF_n6_3 : ¬ (("most" : Str) = "belts") := by decide +kernel
theorem sF_n6_4 : ¬ (("most" : Str) = "many") := by decide +kernel
theorem sF_n6_5 : ¬ (("most" : Str) = "longest") := by decide +kernel
/-- the attributes of a sF, in the order in which __init__ stores them -/
def sF (v0 v1 v2 v3 v4 v5 v6 : V) : List (Str × V) := [("works", v0), ("cells", v1), ("locks", v2), ("belts", v3), ("many", v4), ("longest", v5), ("most", v6)]
theorem sF_get0 {v0 v1 v2 v3 v4 v5 v6 : V} : (sF v0 v1 v2 v3 v4 v5 v6).lookup ("works" : Str) = some v0 := by
  unfold sF
  rw [lookup_put, if_pos rfl]
theorem sF_put0 {v0 v1 v2 v3 v4 v5 v6 z : V} : putF "works" z (sF v0 v1 v2 v3 v4 v5 v6) = sF z v1 v2 v3 v4 v5 v6 := by
  unfold sF
  simp only [putF, if_true]
theorem sF_get1 {v0 v1 v2 v3 v4 v5 v6 : V} : (sF v0 v1 v2 v3 v4 v5 v6).lookup ("cells" : Str) = some v1 := by
  unfold sF
  rw [lookup_put, if_neg sF_n1_0, lookup_put, if_pos rfl]
theorem sF_put1 {v0 v1 v2 v3 v4 v5 v6 z : V} : putF "cells" z (sF v0 v1 v2 v3 v4 v5 v6) = sF v0 z v2 v3 v4 v5 v6 := by
  unfold sF
  simp only [putF, if_neg sF_n0_1, if_true]
theorem sF_get2 {v0 v1 v2 v3 v4 v5 v6 : V} : (sF v0 v1 v2 v3 v4 v5 v6).lookup ("locks" : Str) = some v2 := by
  unfold sF
  rw [lookup_put, if_neg sF_n2_0, lookup_put, if_neg sF_n2_1, lookup_put, if_pos rfl]
theorem sF_put2 {v0 v1 v2 v3 v4 v5 v6 z : V} : putF "locks" z (sF v0 v1 v2 v3 v4 v5 v6) = sF v0 v1 z v3 v4 v5 v6 := by
  unfold sF
  simp only [putF, if_neg sF_n0_2, if_neg sF_n1_2, if_true]
theorem sF_get3 {v0 v1 v2 v3 v4 v5 v6 : V} : (sF v0 v1 v2 v3 v4 v5 v6).lookup ("belts" : Str) = some v3 := by
  unfold sF
  rw [lookup_put, if_neg sF_n3_0, lookup_put, if_neg sF_n3_1, lookup_put, if_neg sF_n3_2, lookup_put, if_pos rfl]
theorem sF_put3 {v0 v1 v2 v3 v4 v5 v6 z : V} : putF "belts" z (sF v0 v1 v2 v3 v4 v5 v6) = sF v0 v1 v2 z v4 v5 v6 := by
  unfold sF
  simp only [putF, if_neg sF_n0_3, if_neg sF_n1_3, if_neg sF_n2_3, if_true]
theorem sF_get4 {v0 v1 v2 v3 v4 v5 v6 : V} : (sF v0 v1 v2 v3 v4 v5 v6).lookup ("many" : Str) = some v4 := by
  unfold sF
  rw [lookup_put, if_neg sF_n4_0, lookup_put, if_neg sF_n4_1, lookup_put, if_neg sF_n4_2, lookup_put, if_neg sF_n4_3, lookup_put, if_pos rfl]
theorem sF_put4 {v0 v1 v2 v3 v4 v5 v6 z : V} : putF "many" z (sF v0 v1 v2 v3 v4 v5 v6) = sF v0 v1 v2 v3 z v5 v6 := by
  unfold sF
  simp only [putF, if_neg sF_n0_4, if_neg sF_n1_4, if_neg sF_n2_4, if_neg sF_n3_4, if_true]
theorem sF_get5 {v0 v1 v2 v3 v4 v5 v6 : V} : (sF v0 v1 v2 v3 v4 v5 v6).lookup ("longest" : Str) = some v5 := by
  unfold sF
  rw [lookup_put, if_neg sF_n5_0, lookup_put, if_neg sF_n5_1, lookup_put, if_neg sF_n5_2, lookup_put, if_neg sF_n5_3, lookup_put, if_neg sF_n5_4, lookup_put, if_pos rfl]
theorem sF_put5 {v0 v1 v2 v3 v4 v5 v6 z : V} : putF "longest" z (sF v0 v1 v2 v3 v4 v5 v6) = sF v0 v1 v2 v3 v4 z v6 := by
  unfold sF
  simp only [putF, if_neg sF_n0_5, if_neg sF_n1_5, if_neg sF_n2_5, if_neg sF_n3_5, if_neg sF_n4_5, if_true]
theorem sF_get6 {v0 v1 v2 v3 v4 v5 v6 : V} : (sF v0 v1 v2 v3 v4 v5 v6).lookup ("most" : Str) = some v6 := by
  unfold sF
  rw [lookup_put, if_neg sF_n6_0, lookup_put, if_neg sF_n6_1, lookup_put, if_neg sF_n6_2, lookup_put, if_neg sF_n6_3, lookup_put, if_neg sF_n6_4, lookup_put, if_neg sF_n6_5, lookup_put, if_pos rfl]
theorem sF_put6 {v0 v1 v2 v3 v4 v5 v6 z : V} : putF "most" z (sF v0 v1 v2 v3 v4 v5 v6) = sF v0 v1 v2 v3 v4 v5 z := by
  unfold sF
  simp only [putF, if_neg sF_n0_6, if_neg sF_n1_6, if_neg sF_n2_6, if_neg sF_n3_6, if_neg sF_n4_6, if_neg sF_n5_6, if_true]
theorem sF_make0 {v0 : V} : putF "works" v0 ([] : List (Str × V)) = ([("works", v0)] : List (Str × V)) := rfl
theorem sF_make1 {v0 v1 : V} : putF "cells" v1 ([("works", v0)] : List (Str × V)) = ([("works", v0), ("cells", v1)] : List (Str × V)) := by
  simp only [putF, if_neg sF_n0_1, if_true]
theorem sF_make2 {v0 v1 v2 : V} : putF "locks" v2 ([("works", v0), ("cells", v1)] : List (Str × V)) = ([("works", v0), ("cells", v1), ("locks", v2)] : List (Str × V)) := by
  simp only [putF, if_neg sF_n0_2, if_neg sF_n1_2, if_true]
theorem sF_make3 {v0 v1 v2 v3 : V} : putF "belts" v3 ([("works", v0), ("cells", v1), ("locks", v2)] : List (Str × V)) = ([("works", v0), ("cells", v1), ("locks", v2), ("belts", v3)] : List (Str × V)) := by
  simp only [putF, if_neg sF_n0_3, if_neg sF_n1_3, if_neg sF_n2_3, if_true]
theorem sF_make4 {v0 v1 v2 v3 v4 : V} : putF "many" v4 ([("works", v0), ("cells", v1), ("locks", v2), ("belts", v3)] : List (Str × V)) = ([("works", v0), ("cells", v1), ("locks", v2), ("belts", v3), ("many", v4)] : List (Str × V)) := by
  simp only [putF, if_neg sF_n0_4, if_neg sF_n1_4, if_neg sF_n2_4, if_neg sF_n3_4, if_true]
theorem sF_make5 {v0 v1 v2 v3 v4 v5 : V} : putF "longest" v5 ([("works", v0), ("cells", v1), ("locks", v2), ("belts", v3), ("many", v4)] : List (Str × V)) = ([("works", v0), ("cells", v1), ("locks", v2), ("belts", v3), ("many", v4), ("longest", v5)] : List (Str × V)) := by
  simp only [putF, if_neg sF_n0_5, if_neg sF_n1_5, if_neg sF_n2_5, if_neg sF_n3_5, if_neg sF_n4_5, if_true]
theorem sF_make6 {v0 v1 v2 v3 v4 v5 v6 : V} : putF "most" v6 ([("works", v0), ("cells", v1), ("locks", v2), ("belts", v3), ("many", v4), ("longest", v5)] : List (Str × V)) = ([("works", v0), ("cells", v1), ("locks", v2), ("belts", v3), ("many", v4), ("longest", v5), ("most", v6)] : List (Str × V)) := by
  simp only [putF, if_neg sF_n0_6, if_neg sF_n1_6, if_neg sF_n2_6, if_neg sF_n3_6, if_neg sF_n4_6, if_neg sF_n5_6, if_true]
theorem sF_no {v0 v1 v2 v3 v4 v5 v6 : V} {m : Str} (h0 : ¬ m = ("works" : Str)) (h1 : ¬ m = ("cells" : Str)) (h2 : ¬ m = ("locks" : Str)) (h3 : ¬ m = ("belts" : Str)) (h4 : ¬ m = ("many" : Str)) (h5 : ¬ m = ("longest" : Str)) (h6 : ¬ m = ("most" : Str)) : (sF v0 v1 v2 v3 v4 v5 v6).lookup m = none := by
  unfold sF
  rw [lookup_put, if_neg h0, lookup_put, if_neg h1, lookup_put, if_neg h2, lookup_put, if_neg h3, lookup_put, if_neg h4, lookup_put, if_neg h5, lookup_put, if_neg h6]
  rfl
/-- a shop as __init__ has left it -/
structure SS where
  dx : Addr
  wt : Addr
  works : List V
  cd : Addr
  cells : List (Key × V)
  cellN : List Str
  lt : Addr
  locks : List Str
  bd : Addr
  belts : List (Key × V)
  beltN : List Str
  many : Int
  longest : Int
  most : Int
structure ShopAt (K : PySem.W.Frag) (C : Addr) (H : Hp) (sh : Addr) (S : SS) : Prop where
  ob : H sh = some (.ins C S.dx (sF (.ref S.wt) (.ref S.cd) (.ref S.lt) (.ref S.bd) (.int S.many) (.int S.longest) (.int S.most)))
  w : SqT K H S.wt S.works
  c : H S.cd = some (.dK S.cells)
  cn : S.cells.map (·.1) = S.cellN.map Sum.inr
  l : SqT K H S.lt (S.locks.map V.str)
  b : H S.bd = some (.dK S.belts)
  bn : S.belts.map (·.1) = S.beltN.map Sum.inr
structure STxt (K : PySem.W.Frag) (C : Addr) : Prop where
  cl : Cls K C
  works : NoAttr K C "works"
  cells : NoAttr K C "cells"
  locks : NoAttr K C "locks"
  belts : NoAttr K C "belts"
  many : NoAttr K C "many"
  longest : NoAttr K C "longest"
  most : NoAttr K C "most"
section
variable {K : PySem.W.Frag} {H H' : Hp}
theorem ShopAt.same {C sh : Addr} {S : SS} (e : Same H H') (A : ShopAt K C H sh S) : ShopAt K C H' sh S := ⟨e _ _ A.ob, seqT_same e A.w, e _ _ A.c, A.cn, seqT_same e A.l, e _ _ A.b, A.bn⟩
theorem Names.same {x : V} {l : List Str} (e : Same H H') (h : Names K H x l) : Names K H' x l := by
  rcases h with ⟨a, kvs, rfl, (h | ⟨o, h⟩), k⟩ | ⟨a, rfl, h⟩
  · exact .inl ⟨a, kvs, rfl, .inl (e _ _ h), k⟩
  · exact .inl ⟨a, kvs, rfl, .inr ⟨o, e _ _ h⟩, k⟩
  · exact .inr ⟨a, rfl, seqT_same e h⟩
theorem Among.same {l : List Str} {y : V} {b : Bool} (e : Same H H') (h : Among K H l y b) : Among K H' l y b := by
  rcases h with h | ⟨rfl, T, ty, k⟩
  · exact .inl h
  · exact .inr ⟨rfl, T, fun H'' z => ty H'' (e.trans z), k⟩
end
/-- a wish about a thing: the errors in their order, else its answer, or the end of the run -/
def spWish (K : PySem.W.Frag) (C CS CH CN CV : Addr) (n m : Nat) (names : SS → List Str) (word : Str) : Sp := fun vs H Q E => ∃ (hd dx : Addr) (h : HS) (S : SS) (y : V) (b : Bool) (rest : List V) (cs : List Bool), vs = .ref hd :: y :: rest ∧ rest.length = m ∧ HandAt K C H hd dx h ∧ ShopAt K CS H h.sh S ∧
  h.asked ≤ h.ans.length ∧ h.ans.length ≤ 1000 ∧ Among K H (names S) y b ∧ rest.length = cs.length ∧ (∀ (i : Nat) (r : V) (c : Bool), rest[i]? = some r → cs[i]? = some c → Vn K H n r c) ∧
  ∀ H', Same H H' → (h.halted = true → E (.ref CH) none H') ∧ (h.halted = false → b = false → EX E CN "name" y H') ∧
    (h.halted = false → b = true → ∀ (i : Nat) (r : V), rest[i]? = some r → cs[i]? = some false → (∀ j, j < i → cs[j]? = some true) → EX E CV "value" r H') ∧
    (h.halted = false → b = true → cs.all id = true → (∀ v, h.ans[h.asked]? = some v → Q v (upd H' hd (.ins C dx { h with asked := h.asked + 1 }.fs))) ∧
      ∀ t, H' t = some (.tup (.str word :: y :: rest)) → h.asked = h.ans.length → E (.ref CH) none (upd H' hd (.ins C dx { h with pend := .ref t, halted := true }.fs)))
/-- the parts of a hand's methods -/
structure Parts (P : Program) (w : World) (K : PySem.W.Frag) (mg : Str → Option Value) (base : Heap) (C CH CN CV : Addr) (n : Nat) : Prop where
  c : ∃ fC, FnR P w K mg base (L2.CX P w) (n + 4) fC (fun vs H Q E => ∃ ws rest, vs = ws ++ rest ∧ ws.length = (["hand", "names", "name"] : List Str).length ∧ rest.length ≤ sizeLine ∧ ∀ p, H p = Option.none → spCallB K C CH CN CV n (ws ++ [V.ref p]) (upd H p (.tup rest)) Q E) ∧
    mg "check_call" = some (.ref fC) ∧ PySem.W.keepIn K (.ref fC) = true
  a : ∃ fA fdA, FnOk P w K mg base (L2.CX P w) 2 fA fdA ["hand", "wish"] (spAsk K C CH) ∧ mg "ask" = some (.ref fA) ∧ PySem.W.keepIn K (.ref fA) = true ∧ Binds K fdA ["hand", "wish"] []
section
variable {P : Program} {w : World} {K : PySem.W.Frag} {mg : Str → Option Value} {base : Heap} {C CS CH CN CV : Addr} {n : Nat}
abbrev s_look : Stmt := inClass (top 26) 1
theorem sc_look : FnScope ["self", "cell"] ["self", "cell"] (defScope s_look) := ⟨rfl, rfl, rfl, by decide +kernel, rfl, by decide +kernel, by decide +kernel⟩
theorem ok_look {f : Addr} {fd : FuncData} (F : Fun K "look" "Hand.look" s_look f fd) (T : HTxt K C) (TS : STxt K CS) (Z : Parts P w K mg base C CH CN CV n) : FnOk P w K mg base (L2.CX P w) (n + 5) f fd ["self", "cell"] (spWish K C CS CH CN CV n 0 SS.cellN "look") := by
  obtain ⟨fC, GC, mC, kC⟩ := Z.c
  obtain ⟨fA, fdA, GA, mA, kA, bA⟩ := Z.a
  refine F.okX sc_look (fun vs H Q E h => ?_) (fun cdv A outer s H vs Q E hr h => ?_)
  · obtain ⟨hd, dx, h, S, y, b, rest, cs, rfl, hm, _⟩ := h
    show rest.length + 1 + 1 = 2
    rw [hm]
  · obtain ⟨hd, dx, h, S, y, b, rest, cs, rfl, hm, hA, hS, le, few, hY, hl, hR, kk⟩ := h
    obtain rfl : rest = [] := List.length_eq_zero_iff.mp hm
    have hr2 : Room 2 _ := hr.mono (by omega)
    refine ⟨_, pss_cons (ps_expr (pe_callR GC hr kC rfl mC (passes_call (takes_of (E := E) rfl rfl rfl rfl) fun _ _ _ _ z => z) (pa_cons (pv 0) (pa_cons (pe_fld (pe_fld (pv 0) rfl) rfl) (pa_cons (pv 1) pa_nil)))))
      (pss_one (ps_ret (pe_callS GA hr2 rfl mA kA bA (fun σ => passAt (takes_of (E := E) rfl rfl rfl rfl) σ) (pa_cons (pv 0) (pa_cons (pe_tup (pa_cons pe_str (pa_cons (pv 1) pa_nil))) pa_nil))))), ?_⟩
    refine ⟨_, rfl, _, rfl, hd, C, dx, _, _, rfl, hA.ob, T.cl, T.shop, hF_get1, h.sh, CS, S.dx, _, _, rfl, hS.ob, TS.cl, TS.cells, sF_get1, _, rfl, [.ref hd, .ref S.cd, y], [], rfl, rfl, by show 0 ≤ sizeLine; rw [sizeLine_eq]; decide, fun p hp => ?_⟩
    have e1 := same_new (o := .tup []) hp
    refine ⟨hd, dx, p, h, .ref S.cd, y, S.cellN, b, [], cs, rfl, upd_same, hl, by show 0 ≤ 1000; decide, hA.same e1, .inl ⟨S.cd, _, rfl, .inl (e1 _ _ hS.c), hS.cn⟩, hY.same e1, fun i r c h1 h2 => (hR i r c h1 h2).same e1, (kk _ e1).1, (kk _ e1).2.1, fun nh hb H' e => ⟨(kk H' (e1.trans e)).2.2.1 nh hb, fun good => ?_⟩⟩
    have e2 := e1.trans e
    refine ⟨_, rfl, _, rfl, by show 2 ≤ sizeLine; rw [sizeLine_eq]; decide, fun t ht => ?_⟩
    have e3 := e2.trans (same_new (o := .tup (.str "look" :: y :: [])) ht)
    obtain ⟨q1, q2⟩ := (kk _ e3).2.2.2 nh hb good
    exact ⟨hd, dx, h, .ref t, rfl, hA.same e3, le, few, q1, q2 t upd_same⟩
abbrev s_put : Stmt := inClass (top 26) 2
theorem sc_put : FnScope ["self", "cell", "value"] ["self", "cell", "value"] (defScope s_put) := ⟨rfl, rfl, rfl, by decide +kernel, rfl, by decide +kernel, by decide +kernel⟩
theorem ok_put {f : Addr} {fd : FuncData} (F : Fun K "put" "Hand.put" s_put f fd) (T : HTxt K C) (TS : STxt K CS) (Z : Parts P w K mg base C CH CN CV n) : FnOk P w K mg base (L2.CX P w) (n + 5) f fd ["self", "cell", "value"] (spWish K C CS CH CN CV n 1 SS.cellN "put") := by
  obtain ⟨fC, GC, mC, kC⟩ := Z.c
  obtain ⟨fA, fdA, GA, mA, kA, bA⟩ := Z.a
  refine F.okX sc_put (fun vs H Q E h => ?_) (fun cdv A outer s H vs Q E hr h => ?_)
  · obtain ⟨hd, dx, h, S, y, b, rest, cs, rfl, hm, _⟩ := h
    show rest.length + 1 + 1 = 3
    rw [hm]
  · obtain ⟨hd, dx, h, S, y, b, rest, cs, rfl, hm, hA, hS, le, few, hY, hl, hR, kk⟩ := h
    obtain ⟨r1, rfl⟩ := List.length_eq_one_iff.mp hm
    have hr2 : Room 2 _ := hr.mono (by omega)
    refine ⟨_, pss_cons (ps_expr (pe_callR GC hr kC rfl mC (passes_call (takes_of (E := E) rfl rfl rfl rfl) fun _ _ _ _ z => z) (pa_cons (pv 0) (pa_cons (pe_fld (pe_fld (pv 0) rfl) rfl) (pa_cons (pv 1) (pa_cons (pv 2) pa_nil))))))
      (pss_one (ps_ret (pe_callS GA hr2 rfl mA kA bA (fun σ => passAt (takes_of (E := E) rfl rfl rfl rfl) σ) (pa_cons (pv 0) (pa_cons (pe_tup (pa_cons pe_str (pa_cons (pv 1) (pa_cons (pv 2) pa_nil)))) pa_nil))))), ?_⟩
    refine ⟨_, rfl, _, rfl, hd, C, dx, _, _, rfl, hA.ob, T.cl, T.shop, hF_get1, h.sh, CS, S.dx, _, _, rfl, hS.ob, TS.cl, TS.cells, sF_get1, _, rfl, _, rfl, [.ref hd, .ref S.cd, y], [r1], rfl, rfl, by show 1 ≤ sizeLine; rw [sizeLine_eq]; decide, fun p hp => ?_⟩
    have e1 := same_new (o := .tup [r1]) hp
    refine ⟨hd, dx, p, h, .ref S.cd, y, S.cellN, b, [r1], cs, rfl, upd_same, hl, by show 1 ≤ 1000; decide, hA.same e1, .inl ⟨S.cd, _, rfl, .inl (e1 _ _ hS.c), hS.cn⟩, hY.same e1, fun i r c h1 h2 => (hR i r c h1 h2).same e1, (kk _ e1).1, (kk _ e1).2.1, fun nh hb H' e => ⟨(kk H' (e1.trans e)).2.2.1 nh hb, fun good => ?_⟩⟩
    have e2 := e1.trans e
    refine ⟨_, rfl, _, rfl, _, rfl, by show 3 ≤ sizeLine; rw [sizeLine_eq]; decide, fun t ht => ?_⟩
    have e3 := e2.trans (same_new (o := .tup (.str "put" :: y :: [r1])) ht)
    obtain ⟨q1, q2⟩ := (kk _ e3).2.2.2 nh hb good
    exact ⟨hd, dx, h, .ref t, rfl, hA.same e3, le, few, q1, q2 t upd_same⟩
abbrev s_swap : Stmt := inClass (top 26) 3
theorem sc_swap : FnScope ["self", "cell", "value"] ["self", "cell", "value"] (defScope s_swap) := ⟨rfl, rfl, rfl, by decide +kernel, rfl, by decide +kernel, by decide +kernel⟩
theorem ok_swap {f : Addr} {fd : FuncData} (F : Fun K "swap" "Hand.swap" s_swap f fd) (T : HTxt K C) (TS : STxt K CS) (Z : Parts P w K mg base C CH CN CV n) : FnOk P w K mg base (L2.CX P w) (n + 5) f fd ["self", "cell", "value"] (spWish K C CS CH CN CV n 1 SS.cellN "swap") := by
  obtain ⟨fC, GC, mC, kC⟩ := Z.c
  obtain ⟨fA, fdA, GA, mA, kA, bA⟩ := Z.a
  refine F.okX sc_swap (fun vs H Q E h => ?_) (fun cdv A outer s H vs Q E hr h => ?_)
  · obtain ⟨hd, dx, h, S, y, b, rest, cs, rfl, hm, _⟩ := h
    show rest.length + 1 + 1 = 3
    rw [hm]
  · obtain ⟨hd, dx, h, S, y, b, rest, cs, rfl, hm, hA, hS, le, few, hY, hl, hR, kk⟩ := h
    obtain ⟨r1, rfl⟩ := List.length_eq_one_iff.mp hm
    have hr2 : Room 2 _ := hr.mono (by omega)
    refine ⟨_, pss_cons (ps_expr (pe_callR GC hr kC rfl mC (passes_call (takes_of (E := E) rfl rfl rfl rfl) fun _ _ _ _ z => z) (pa_cons (pv 0) (pa_cons (pe_fld (pe_fld (pv 0) rfl) rfl) (pa_cons (pv 1) (pa_cons (pv 2) pa_nil))))))
      (pss_one (ps_ret (pe_callS GA hr2 rfl mA kA bA (fun σ => passAt (takes_of (E := E) rfl rfl rfl rfl) σ) (pa_cons (pv 0) (pa_cons (pe_tup (pa_cons pe_str (pa_cons (pv 1) (pa_cons (pv 2) pa_nil)))) pa_nil))))), ?_⟩
    refine ⟨_, rfl, _, rfl, hd, C, dx, _, _, rfl, hA.ob, T.cl, T.shop, hF_get1, h.sh, CS, S.dx, _, _, rfl, hS.ob, TS.cl, TS.cells, sF_get1, _, rfl, _, rfl, [.ref hd, .ref S.cd, y], [r1], rfl, rfl, by show 1 ≤ sizeLine; rw [sizeLine_eq]; decide, fun p hp => ?_⟩
    have e1 := same_new (o := .tup [r1]) hp
    refine ⟨hd, dx, p, h, .ref S.cd, y, S.cellN, b, [r1], cs, rfl, upd_same, hl, by show 1 ≤ 1000; decide, hA.same e1, .inl ⟨S.cd, _, rfl, .inl (e1 _ _ hS.c), hS.cn⟩, hY.same e1, fun i r c h1 h2 => (hR i r c h1 h2).same e1, (kk _ e1).1, (kk _ e1).2.1, fun nh hb H' e => ⟨(kk H' (e1.trans e)).2.2.1 nh hb, fun good => ?_⟩⟩
    have e2 := e1.trans e
    refine ⟨_, rfl, _, rfl, _, rfl, by show 3 ≤ sizeLine; rw [sizeLine_eq]; decide, fun t ht => ?_⟩
    have e3 := e2.trans (same_new (o := .tup (.str "swap" :: y :: [r1])) ht)
    obtain ⟨q1, q2⟩ := (kk _ e3).2.2.2 nh hb good
    exact ⟨hd, dx, h, .ref t, rfl, hA.same e3, le, few, q1, q2 t upd_same⟩
abbrev s_trade : Stmt := inClass (top 26) 4
theorem sc_trade : FnScope ["self", "cell", "old", "value"] ["self", "cell", "old", "value"] (defScope s_trade) := ⟨rfl, rfl, rfl, by decide +kernel, rfl, by decide +kernel, by decide +kernel⟩
theorem ok_trade {f : Addr} {fd : FuncData} (F : Fun K "trade" "Hand.trade" s_trade f fd) (T : HTxt K C) (TS : STxt K CS) (Z : Parts P w K mg base C CH CN CV n) : FnOk P w K mg base (L2.CX P w) (n + 5) f fd ["self", "cell", "old", "value"] (spWish K C CS CH CN CV n 2 SS.cellN "trade") := by
  obtain ⟨fC, GC, mC, kC⟩ := Z.c
  obtain ⟨fA, fdA, GA, mA, kA, bA⟩ := Z.a
  refine F.okX sc_trade (fun vs H Q E h => ?_) (fun cdv A outer s H vs Q E hr h => ?_)
  · obtain ⟨hd, dx, h, S, y, b, rest, cs, rfl, hm, _⟩ := h
    show rest.length + 1 + 1 = 4
    rw [hm]
  · obtain ⟨hd, dx, h, S, y, b, rest, cs, rfl, hm, hA, hS, le, few, hY, hl, hR, kk⟩ := h
    obtain ⟨r1, r2, rfl⟩ : ∃ r1 r2, rest = [r1, r2] := by
      match rest, hm with
      | [a, b], _ => exact ⟨a, b, rfl⟩
    have hr2 : Room 2 _ := hr.mono (by omega)
    refine ⟨_, pss_cons (ps_expr (pe_callR GC hr kC rfl mC (passes_call (takes_of (E := E) rfl rfl rfl rfl) fun _ _ _ _ z => z) (pa_cons (pv 0) (pa_cons (pe_fld (pe_fld (pv 0) rfl) rfl) (pa_cons (pv 1) (pa_cons (pv 2) (pa_cons (pv 3) pa_nil)))))))
      (pss_one (ps_ret (pe_callS GA hr2 rfl mA kA bA (fun σ => passAt (takes_of (E := E) rfl rfl rfl rfl) σ) (pa_cons (pv 0) (pa_cons (pe_tup (pa_cons pe_str (pa_cons (pv 1) (pa_cons (pv 2) (pa_cons (pv 3) pa_nil))))) pa_nil))))), ?_⟩
    refine ⟨_, rfl, _, rfl, hd, C, dx, _, _, rfl, hA.ob, T.cl, T.shop, hF_get1, h.sh, CS, S.dx, _, _, rfl, hS.ob, TS.cl, TS.cells, sF_get1, _, rfl, _, rfl, _, rfl, [.ref hd, .ref S.cd, y], [r1, r2], rfl, rfl, by show 2 ≤ sizeLine; rw [sizeLine_eq]; decide, fun p hp => ?_⟩
    have e1 := same_new (o := .tup [r1, r2]) hp
    refine ⟨hd, dx, p, h, .ref S.cd, y, S.cellN, b, [r1, r2], cs, rfl, upd_same, hl, by show 2 ≤ 1000; decide, hA.same e1, .inl ⟨S.cd, _, rfl, .inl (e1 _ _ hS.c), hS.cn⟩, hY.same e1, fun i r c h1 h2 => (hR i r c h1 h2).same e1, (kk _ e1).1, (kk _ e1).2.1, fun nh hb H' e => ⟨(kk H' (e1.trans e)).2.2.1 nh hb, fun good => ?_⟩⟩
    have e2 := e1.trans e
    refine ⟨_, rfl, _, rfl, _, rfl, _, rfl, by show 4 ≤ sizeLine; rw [sizeLine_eq]; decide, fun t ht => ?_⟩
    have e3 := e2.trans (same_new (o := .tup (.str "trade" :: y :: [r1, r2])) ht)
    obtain ⟨q1, q2⟩ := (kk _ e3).2.2.2 nh hb good
    exact ⟨hd, dx, h, .ref t, rfl, hA.same e3, le, few, q1, q2 t upd_same⟩
abbrev s_until : Stmt := inClass (top 26) 5
theorem sc_until : FnScope ["self", "cell", "value"] ["self", "cell", "value"] (defScope s_until) := ⟨rfl, rfl, rfl, by decide +kernel, rfl, by decide +kernel, by decide +kernel⟩
theorem ok_until {f : Addr} {fd : FuncData} (F : Fun K "until" "Hand.until" s_until f fd) (T : HTxt K C) (TS : STxt K CS) (Z : Parts P w K mg base C CH CN CV n) : FnOk P w K mg base (L2.CX P w) (n + 5) f fd ["self", "cell", "value"] (spWish K C CS CH CN CV n 1 SS.cellN "until") := by
  obtain ⟨fC, GC, mC, kC⟩ := Z.c
  obtain ⟨fA, fdA, GA, mA, kA, bA⟩ := Z.a
  refine F.okX sc_until (fun vs H Q E h => ?_) (fun cdv A outer s H vs Q E hr h => ?_)
  · obtain ⟨hd, dx, h, S, y, b, rest, cs, rfl, hm, _⟩ := h
    show rest.length + 1 + 1 = 3
    rw [hm]
  · obtain ⟨hd, dx, h, S, y, b, rest, cs, rfl, hm, hA, hS, le, few, hY, hl, hR, kk⟩ := h
    obtain ⟨r1, rfl⟩ := List.length_eq_one_iff.mp hm
    have hr2 : Room 2 _ := hr.mono (by omega)
    refine ⟨_, pss_cons (ps_expr (pe_callR GC hr kC rfl mC (passes_call (takes_of (E := E) rfl rfl rfl rfl) fun _ _ _ _ z => z) (pa_cons (pv 0) (pa_cons (pe_fld (pe_fld (pv 0) rfl) rfl) (pa_cons (pv 1) (pa_cons (pv 2) pa_nil))))))
      (pss_one (ps_ret (pe_callS GA hr2 rfl mA kA bA (fun σ => passAt (takes_of (E := E) rfl rfl rfl rfl) σ) (pa_cons (pv 0) (pa_cons (pe_tup (pa_cons pe_str (pa_cons (pv 1) (pa_cons (pv 2) pa_nil)))) pa_nil))))), ?_⟩
    refine ⟨_, rfl, _, rfl, hd, C, dx, _, _, rfl, hA.ob, T.cl, T.shop, hF_get1, h.sh, CS, S.dx, _, _, rfl, hS.ob, TS.cl, TS.cells, sF_get1, _, rfl, _, rfl, [.ref hd, .ref S.cd, y], [r1], rfl, rfl, by show 1 ≤ sizeLine; rw [sizeLine_eq]; decide, fun p hp => ?_⟩
    have e1 := same_new (o := .tup [r1]) hp
    refine ⟨hd, dx, p, h, .ref S.cd, y, S.cellN, b, [r1], cs, rfl, upd_same, hl, by show 1 ≤ 1000; decide, hA.same e1, .inl ⟨S.cd, _, rfl, .inl (e1 _ _ hS.c), hS.cn⟩, hY.same e1, fun i r c h1 h2 => (hR i r c h1 h2).same e1, (kk _ e1).1, (kk _ e1).2.1, fun nh hb H' e => ⟨(kk H' (e1.trans e)).2.2.1 nh hb, fun good => ?_⟩⟩
    have e2 := e1.trans e
    refine ⟨_, rfl, _, rfl, _, rfl, by show 3 ≤ sizeLine; rw [sizeLine_eq]; decide, fun t ht => ?_⟩
    have e3 := e2.trans (same_new (o := .tup (.str "until" :: y :: [r1])) ht)
    obtain ⟨q1, q2⟩ := (kk _ e3).2.2.2 nh hb good
    exact ⟨hd, dx, h, .ref t, rfl, hA.same e3, le, few, q1, q2 t upd_same⟩
abbrev s_lay : Stmt := inClass (top 26) 9
theorem sc_lay : FnScope ["self", "belt", "value"] ["self", "belt", "value"] (defScope s_lay) := ⟨rfl, rfl, rfl, by decide +kernel, rfl, by decide +kernel, by decide +kernel⟩
theorem ok_lay {f : Addr} {fd : FuncData} (F : Fun K "lay" "Hand.lay" s_lay f fd) (T : HTxt K C) (TS : STxt K CS) (Z : Parts P w K mg base C CH CN CV n) : FnOk P w K mg base (L2.CX P w) (n + 5) f fd ["self", "belt", "value"] (spWish K C CS CH CN CV n 1 SS.beltN "lay") := by
  obtain ⟨fC, GC, mC, kC⟩ := Z.c
  obtain ⟨fA, fdA, GA, mA, kA, bA⟩ := Z.a
  refine F.okX sc_lay (fun vs H Q E h => ?_) (fun cdv A outer s H vs Q E hr h => ?_)
  · obtain ⟨hd, dx, h, S, y, b, rest, cs, rfl, hm, _⟩ := h
    show rest.length + 1 + 1 = 3
    rw [hm]
  · obtain ⟨hd, dx, h, S, y, b, rest, cs, rfl, hm, hA, hS, le, few, hY, hl, hR, kk⟩ := h
    obtain ⟨r1, rfl⟩ := List.length_eq_one_iff.mp hm
    have hr2 : Room 2 _ := hr.mono (by omega)
    refine ⟨_, pss_cons (ps_expr (pe_callR GC hr kC rfl mC (passes_call (takes_of (E := E) rfl rfl rfl rfl) fun _ _ _ _ z => z) (pa_cons (pv 0) (pa_cons (pe_fld (pe_fld (pv 0) rfl) rfl) (pa_cons (pv 1) (pa_cons (pv 2) pa_nil))))))
      (pss_one (ps_ret (pe_callS GA hr2 rfl mA kA bA (fun σ => passAt (takes_of (E := E) rfl rfl rfl rfl) σ) (pa_cons (pv 0) (pa_cons (pe_tup (pa_cons pe_str (pa_cons (pv 1) (pa_cons (pv 2) pa_nil)))) pa_nil))))), ?_⟩
    refine ⟨_, rfl, _, rfl, hd, C, dx, _, _, rfl, hA.ob, T.cl, T.shop, hF_get1, h.sh, CS, S.dx, _, _, rfl, hS.ob, TS.cl, TS.belts, sF_get3, _, rfl, _, rfl, [.ref hd, .ref S.bd, y], [r1], rfl, rfl, by show 1 ≤ sizeLine; rw [sizeLine_eq]; decide, fun p hp => ?_⟩
    have e1 := same_new (o := .tup [r1]) hp
    refine ⟨hd, dx, p, h, .ref S.bd, y, S.beltN, b, [r1], cs, rfl, upd_same, hl, by show 1 ≤ 1000; decide, hA.same e1, .inl ⟨S.bd, _, rfl, .inl (e1 _ _ hS.b), hS.bn⟩, hY.same e1, fun i r c h1 h2 => (hR i r c h1 h2).same e1, (kk _ e1).1, (kk _ e1).2.1, fun nh hb H' e => ⟨(kk H' (e1.trans e)).2.2.1 nh hb, fun good => ?_⟩⟩
    have e2 := e1.trans e
    refine ⟨_, rfl, _, rfl, _, rfl, by show 3 ≤ sizeLine; rw [sizeLine_eq]; decide, fun t ht => ?_⟩
    have e3 := e2.trans (same_new (o := .tup (.str "lay" :: y :: [r1])) ht)
    obtain ⟨q1, q2⟩ := (kk _ e3).2.2.2 nh hb good
    exact ⟨hd, dx, h, .ref t, rfl, hA.same e3, le, few, q1, q2 t upd_same⟩
abbrev s_fetch : Stmt := inClass (top 26) 10
theorem sc_fetch : FnScope ["self", "belt"] ["self", "belt"] (defScope s_fetch) := ⟨rfl, rfl, rfl, by decide +kernel, rfl, by decide +kernel, by decide +kernel⟩
theorem ok_fetch {f : Addr} {fd : FuncData} (F : Fun K "fetch" "Hand.fetch" s_fetch f fd) (T : HTxt K C) (TS : STxt K CS) (Z : Parts P w K mg base C CH CN CV n) : FnOk P w K mg base (L2.CX P w) (n + 5) f fd ["self", "belt"] (spWish K C CS CH CN CV n 0 SS.beltN "fetch") := by
  obtain ⟨fC, GC, mC, kC⟩ := Z.c
  obtain ⟨fA, fdA, GA, mA, kA, bA⟩ := Z.a
  refine F.okX sc_fetch (fun vs H Q E h => ?_) (fun cdv A outer s H vs Q E hr h => ?_)
  · obtain ⟨hd, dx, h, S, y, b, rest, cs, rfl, hm, _⟩ := h
    show rest.length + 1 + 1 = 2
    rw [hm]
  · obtain ⟨hd, dx, h, S, y, b, rest, cs, rfl, hm, hA, hS, le, few, hY, hl, hR, kk⟩ := h
    obtain rfl : rest = [] := List.length_eq_zero_iff.mp hm
    have hr2 : Room 2 _ := hr.mono (by omega)
    refine ⟨_, pss_cons (ps_expr (pe_callR GC hr kC rfl mC (passes_call (takes_of (E := E) rfl rfl rfl rfl) fun _ _ _ _ z => z) (pa_cons (pv 0) (pa_cons (pe_fld (pe_fld (pv 0) rfl) rfl) (pa_cons (pv 1) pa_nil)))))
      (pss_one (ps_ret (pe_callS GA hr2 rfl mA kA bA (fun σ => passAt (takes_of (E := E) rfl rfl rfl rfl) σ) (pa_cons (pv 0) (pa_cons (pe_tup (pa_cons pe_str (pa_cons (pv 1) pa_nil))) pa_nil))))), ?_⟩
    refine ⟨_, rfl, _, rfl, hd, C, dx, _, _, rfl, hA.ob, T.cl, T.shop, hF_get1, h.sh, CS, S.dx, _, _, rfl, hS.ob, TS.cl, TS.belts, sF_get3, _, rfl, [.ref hd, .ref S.bd, y], [], rfl, rfl, by show 0 ≤ sizeLine; rw [sizeLine_eq]; decide, fun p hp => ?_⟩
    have e1 := same_new (o := .tup []) hp
    refine ⟨hd, dx, p, h, .ref S.bd, y, S.beltN, b, [], cs, rfl, upd_same, hl, by show 0 ≤ 1000; decide, hA.same e1, .inl ⟨S.bd, _, rfl, .inl (e1 _ _ hS.b), hS.bn⟩, hY.same e1, fun i r c h1 h2 => (hR i r c h1 h2).same e1, (kk _ e1).1, (kk _ e1).2.1, fun nh hb H' e => ⟨(kk H' (e1.trans e)).2.2.1 nh hb, fun good => ?_⟩⟩
    have e2 := e1.trans e
    refine ⟨_, rfl, _, rfl, by show 2 ≤ sizeLine; rw [sizeLine_eq]; decide, fun t ht => ?_⟩
    have e3 := e2.trans (same_new (o := .tup (.str "fetch" :: y :: [])) ht)
    obtain ⟨q1, q2⟩ := (kk _ e3).2.2.2 nh hb good
    exact ⟨hd, dx, h, .ref t, rfl, hA.same e3, le, few, q1, q2 t upd_same⟩
end
end TW
namespace TW
open PySem PySem.Spec PyProof.Rows L2
abbrev sHI : Stmt := inClass (top 26) 0
abbrev s_rest : Stmt := inClass (top 26) 11
abbrev s_say : Stmt := inClass (top 26) 12
abbrev s_fail : Stmt := inClass (top 26) 13
/-- a new hand: nothing asked as yet -/
def hs0 (me : Int) (sh an : Addr) (ans : List V) (md wl : Addr) : HS := ⟨me, sh, an, ans, 0, md, [], wl, [], .non, .non, false⟩
def spHI (K : PySem.W.Frag) (C : Addr) : Sp := fun vs H Q _ => ∃ (hd dx sh an : Addr) (me : Int) (ans : List V), vs = [.ref hd, .ref sh, .int me, .ref an] ∧ H hd = some (.ins C dx []) ∧ SqT K H an ans ∧
  ∀ (md wl : Addr) (H' : Hp), H md = none → H wl = none → (∀ b o, H b = some o → b ≠ hd → H' b = some o) → HandAt K C H' hd dx (hs0 me sh an ans md wl) → Q .non H'
def spSay (K : PySem.W.Frag) (C CH CV : Addr) (n : Nat) : Sp := fun vs H Q E => ∃ (hd dx : Addr) (h : HS) (y : V) (c : Bool), vs = [.ref hd, y] ∧ HandAt K C H hd dx h ∧ h.words.length ≤ 1000 ∧ Vn K H n y c ∧
  (h.halted = true → E (.ref CH) none H) ∧ ∀ H', Same H H' → (h.halted = false → c = false → EX E CV "value" y H') ∧ (h.halted = false → c = true → Q .non (upd H' h.wl (.lst (h.words ++ [y]))))
def spFail (K : PySem.W.Frag) (C CH CV : Addr) (n : Nat) : Sp := fun vs H Q E => ∃ (hd dx : Addr) (h : HS) (y : V) (c : Bool), vs = [.ref hd, y] ∧ HandAt K C H hd dx h ∧ Vn K H n y c ∧
  (h.halted = true → E (.ref CH) none H) ∧ ∀ H', Same H H' → (h.halted = false → c = false → EX E CV "value" y H') ∧
    ∀ t, H' t = some (.tup [.str "failed", y]) → h.halted = false → c = true → E (.ref CH) none (upd H' hd (.ins C dx { h with fin := .ref t, halted := true }.fs))
def spRest (K : PySem.W.Frag) (C CH : Addr) : Sp := fun vs H Q E => ∃ (hd dx : Addr) (h : HS), vs = [.ref hd] ∧ HandAt K C H hd dx h ∧ h.asked ≤ h.ans.length ∧ h.ans.length ≤ 1000 ∧ (h.halted = true → E (.ref CH) none H) ∧
  ∀ H', Same H H' → (h.halted = false → ∀ v, h.ans[h.asked]? = some v → Q v (upd H' hd (.ins C dx { h with asked := h.asked + 1 }.fs))) ∧
    ∀ t, H' t = some (.tup [.str "rest"]) → h.halted = false → h.asked = h.ans.length → E (.ref CH) none (upd H' hd (.ins C dx { h with pend := .ref t, halted := true }.fs))
section
variable {P : Program} {w : World} {K : PySem.W.Frag} {mg : Str → Option Value} {base : Heap} {C CS CH CN CV : Addr} {n : Nat}
theorem scHI : FnScope ["self", "shop", "me", "answers"] ["self", "shop", "me", "answers"] (defScope sHI) := ⟨rfl, rfl, rfl, by decide +kernel, rfl, by decide +kernel, by decide +kernel⟩
theorem ok_HI {f : Addr} {fd : FuncData} (F : Fun K "__init__" "Hand.__init__" sHI f fd) (T : HTxt K C) : FnOk P w K mg base CX0 1 f fd ["self", "shop", "me", "answers"] (spHI K C) := by
  refine F.ok scHI (fun vs H Q E h => ?_) (fun cdv A outer s H vs Q E hr h => ?_)
  · obtain ⟨hd, dx, sh, an, me, ans, rfl, _⟩ := h
    rfl
  · obtain ⟨hd, dx, sh, an, me, ans, rfl, ho, ha, k⟩ := h
    refine ⟨_, pss_cons (ps_fld (pv 0) (pv 2) rfl) (pss_cons (ps_fld (pv 0) (pv 1) rfl) (pss_cons (ps_fld (pv 0) (pv 3) rfl) (pss_cons (ps_fld (pv 0) pe_int rfl) (pss_cons (ps_fld (pv 0) pe_dnewK rfl) (pss_cons (ps_fld (pv 0) (pe_lst pa_nil) rfl)
      (pss_cons (ps_fld (pv 0) pe_non rfl) (pss_cons (ps_fld (pv 0) pe_non rfl) (pss_one (ps_fld (pv 0) pe_bl rfl))))))))), ?_⟩
    refine ⟨_, rfl, _, rfl, hd, C, dx, _, rfl, ho, T.cl, T.me, (by show 0 < 1000; decide), ?_⟩
    rw [hF_make0]
    refine ⟨_, rfl, _, rfl, hd, C, dx, _, rfl, upd_same, T.cl, T.shop, (by show 1 < 1000; decide), ?_⟩
    rw [hF_make1, upd_upd]
    refine ⟨_, rfl, _, rfl, hd, C, dx, _, rfl, upd_same, T.cl, T.answers, (by show 2 < 1000; decide), ?_⟩
    rw [hF_make2, upd_upd]
    refine ⟨_, rfl, hd, C, dx, _, rfl, upd_same, T.cl, T.asked, (by show 3 < 1000; decide), ?_⟩
    rw [hF_make3, upd_upd]
    intro md hmd
    have n1 : md ≠ hd := (ne_of_none upd_same hmd).symm
    refine ⟨_, rfl, hd, C, dx, _, rfl, by rw [upd_ne n1.symm]; exact upd_same, T.cl, T.mine, (by show 4 < 1000; decide), ?_⟩
    rw [hF_make4]
    refine ⟨by show 0 ≤ sizeLine; exact Nat.zero_le _, fun wl hwl => ?_⟩
    have n2 : wl ≠ hd := (ne_of_none upd_same hwl).symm
    have n3 : wl ≠ md := by
      intro z
      rw [z, upd_ne n1, upd_same] at hwl
      cases hwl
    refine ⟨_, rfl, hd, C, dx, _, rfl, by rw [upd_ne n2.symm]; exact upd_same, T.cl, T.words, (by show 5 < 1000; decide), ?_⟩
    rw [hF_make5]
    refine ⟨_, rfl, hd, C, dx, _, rfl, upd_same, T.cl, T.pending, (by show 6 < 1000; decide), ?_⟩
    rw [hF_make6, upd_upd]
    refine ⟨_, rfl, hd, C, dx, _, rfl, upd_same, T.cl, T.end_, (by show 7 < 1000; decide), ?_⟩
    rw [hF_make7, upd_upd]
    refine ⟨_, rfl, hd, C, dx, _, rfl, upd_same, T.cl, T.halted, (by show 8 < 1000; decide), ?_⟩
    rw [hF_make8, upd_upd]
    have m1 : H md = none := by
      rw [upd_ne n1] at hmd
      exact hmd
    have m2 : H wl = none := by
      rw [upd_ne n2, upd_ne n3, upd_ne n2] at hwl
      exact hwl
    have old : ∀ b o, H b = some o → b ≠ hd → upd (upd (upd (upd (upd H hd (.ins C dx [("me", .int me), ("shop", .ref sh), ("answers", .ref an), ("asked", .int 0)])) md (.dK [])) hd (.ins C dx [("me", .int me), ("shop", .ref sh), ("answers", .ref an), ("asked", .int 0), ("mine", .ref md)])) wl (.lst [])) hd
        (.ins C dx (hs0 me sh an ans md wl).fs) b = some o := fun b o e ne => by
      rw [upd_ne ne, upd_ne (ne_of_none e m2), upd_ne ne, upd_ne (ne_of_none e m1), upd_ne ne]
      exact e
    refine k md wl _ m1 m2 old ⟨upd_same, ?_, ?_, ?_⟩
    · rcases ha with (z | ⟨o, z⟩) | z
      · exact .inl (.inl (old _ _ z (ne_of z ho (by intro y; cases y))))
      · exact .inl (.inr ⟨o, old _ _ z (ne_of z ho (by intro y; cases y))⟩)
      · exact .inr z
    · show upd _ hd _ md = some (.dK [])
      rw [upd_ne n1, upd_ne n3.symm, upd_ne n1]
      exact upd_same
    · show upd _ hd _ wl = some (.lst [])
      rw [upd_ne n2]
      exact upd_same
end
end TW
namespace TW
open PySem PySem.Spec PyProof.Rows L2
/-- the short defs that a hand's methods call -/
structure Shorts (P : Program) (w : World) (K : PySem.W.Frag) (mg : Str → Option Value) (base : Heap) (C CH CV : Addr) (n : Nat) : Prop where
  g : ∃ f fd, FnOk P w K mg base (L2.CX P w) 1 f fd ["hand"] (spGoing K C CH) ∧ mg "check_going" = some (.ref f) ∧ PySem.W.keepIn K (.ref f) = true ∧ Binds K fd ["hand"] []
  v : ∃ f fd, FnOk P w K mg base (L2.CX P w) (n + 3) f fd ["given"] (spCkV K CV n) ∧ mg "check_value" = some (.ref f) ∧ PySem.W.keepIn K (.ref f) = true ∧ Binds K fd ["given"] []
  a : ∃ f fd, FnOk P w K mg base (L2.CX P w) 2 f fd ["hand", "wish"] (spAsk K C CH) ∧ mg "ask" = some (.ref f) ∧ PySem.W.keepIn K (.ref f) = true ∧ Binds K fd ["hand", "wish"] []
  h : ∃ f fd, FnOk P w K mg base (L2.CX P w) 1 f fd ["hand"] (spHalt K C CH) ∧ mg "halt" = some (.ref f) ∧ PySem.W.keepIn K (.ref f) = true ∧ Binds K fd ["hand"] []
section
variable {P : Program} {w : World} {K : PySem.W.Frag} {mg : Str → Option Value} {base : Heap} {C CS CH CN CV : Addr} {n : Nat}
theorem sc_say : FnScope ["self", "value"] ["self", "value"] (defScope s_say) := ⟨rfl, rfl, rfl, by decide +kernel, rfl, by decide +kernel, by decide +kernel⟩
theorem ok_say {f : Addr} {fd : FuncData} (F : Fun K "say" "Hand.say" s_say f fd) (T : HTxt K C) (Z : Shorts P w K mg base C CH CV n) : FnOk P w K mg base (L2.CX P w) (n + 4) f fd ["self", "value"] (spSay K C CH CV n) := by
  obtain ⟨fG, fdG, GG, mG, kG, bG⟩ := Z.g
  obtain ⟨fV, fdV, GV, mV, kV, bV⟩ := Z.v
  refine F.okX sc_say (fun vs H Q E h => ?_) (fun cdv A outer s H vs Q E hr h => ?_)
  · obtain ⟨hd, dx, h, y, c, rfl, _⟩ := h
    rfl
  · obtain ⟨hd, dx, h, y, c, rfl, hA, few, hV, k1, k2⟩ := h
    have hr1 : Room 1 _ := hr.mono (by omega)
    refine ⟨_, pss_cons (ps_expr (pe_callS GG hr1 rfl mG kG bG (fun σ => passAt (takes_of (E := E) rfl rfl rfl rfl) σ) (pa_cons (pv 0) pa_nil)))
      (pss_cons (ps_expr (pe_callS GV hr rfl mV kV bV (fun σ => passAt (takes_of (E := E) rfl rfl rfl rfl) σ) (pa_cons (pv 1) pa_nil)))
      (pss_one (ps_expr (pe_bm PySem.F.plainAttrs_list PySem.F.slot_list_append PySem.F.type_list_append mt_append (pe_fld (pv 0) rfl) (pa_cons (pv 1) pa_nil))))), ?_⟩
    refine ⟨_, rfl, hd, dx, h, rfl, hA, fun nh => ?_, fun hh => k1 hh⟩
    refine ⟨_, rfl, y, c, rfl, hV, fun H' e => ⟨fun hc => ?_, fun hc => (k2 H' e).1 nh hc⟩⟩
    have hB := hA.same e
    refine ⟨_, rfl, hd, C, dx, _, _, rfl, hB.ob, T.cl, T.words, hF_get5, .inl ⟨rfl, _, SqL.of hB.w⟩, _, rfl, h.wl, _, _, rfl, rfl, hB.w, ?_, (k2 H' e).2 nh hc⟩
    rw [sizeLine_eq]
    omega
theorem sc_fail : FnScope ["self", "value"] ["self", "value"] (defScope s_fail) := ⟨rfl, rfl, rfl, by decide +kernel, rfl, by decide +kernel, by decide +kernel⟩
theorem sc_rest : FnScope ["self"] ["self"] (defScope s_rest) := ⟨rfl, rfl, rfl, by decide +kernel, rfl, by decide +kernel, by decide +kernel⟩
theorem ok_rest {f : Addr} {fd : FuncData} (F : Fun K "rest" "Hand.rest" s_rest f fd) (T : HTxt K C) (Z : Shorts P w K mg base C CH CV n) : FnOk P w K mg base (L2.CX P w) 3 f fd ["self"] (spRest K C CH) := by
  obtain ⟨fG, fdG, GG, mG, kG, bG⟩ := Z.g
  obtain ⟨fA, fdA, GA, mA, kA, bA⟩ := Z.a
  refine F.okX sc_rest (fun vs H Q E h => ?_) (fun cdv A outer s H vs Q E hr h => ?_)
  · obtain ⟨hd, dx, h, rfl, _⟩ := h
    rfl
  · obtain ⟨hd, dx, h, rfl, hA, le, few, k1, k2⟩ := h
    have hr1 : Room 1 _ := hr.mono (by omega)
    refine ⟨_, pss_cons (ps_expr (pe_callS GG hr1 rfl mG kG bG (fun σ => passAt (takes_of (E := E) rfl rfl rfl rfl) σ) (pa_cons (pv 0) pa_nil)))
      (pss_one (ps_ret (pe_callS GA hr rfl mA kA bA (fun σ => passAt (takes_of (E := E) rfl rfl rfl rfl) σ) (pa_cons (pv 0) (pa_cons (pe_tup (pa_cons pe_str pa_nil)) pa_nil))))), ?_⟩
    refine ⟨_, rfl, hd, dx, h, rfl, hA, fun nh => ?_, fun hh => k1 hh⟩
    refine ⟨_, rfl, by show 1 ≤ sizeLine; rw [sizeLine_eq]; decide, fun t ht => ?_⟩
    have e := same_new (o := .tup [.str "rest"]) ht
    exact ⟨hd, dx, h, .ref t, rfl, hA.same e, le, few, (k2 _ e).1 nh, (k2 _ e).2 t upd_same nh⟩
end
end TW
namespace TW
open PySem PySem.Spec PyProof.Rows L2
theorem tF_n0_1 : ¬ (("cells" : Str) = "holders") := by decide +kernel
theorem tF_n0_2 : ¬ (("cells" : Str) = "rows") := by decide +kernel
theorem tF_n0_3 : ¬ (("cells" : Str) = "sizes") := by decide +kernel
theorem tF_n1_0 : ¬ (("holders" : Str) = "cells") := by decide +kernel
theorem tF_n1_2 : ¬ (("holders" : Str) = "rows") := by decide +kernel
theorem tF_n1_3 : ¬ (("holders" : Str) = "sizes") := by decide +kernel
theorem tF_n2_0 : ¬ (("rows" : Str) = "cells") := by decide +kernel
theorem tF_n2_1 : ¬ (("rows" : Str) = "holders") := by decide +kernel
theorem tF_n2_3 : ¬ (("rows" : Str) = "sizes") := by decide +kernel
theorem tF_n3_0 : ¬ (("sizes" : Str) = "cells") := by decide +kernel
theorem tF_n3_1 : ¬ (("sizes" : Str) = "holders") := by decide +kernel
theorem tF_n3_2 : ¬ (("sizes" : Str) = "rows") := by decide +kernel
/-- the attributes of a tF, in the order in which __init__ stores them -/
def tF (v0 v1 v2 v3 : V) : List (Str × V) := [("cells", v0), ("holders", v1), ("rows", v2), ("sizes", v3)]
theorem tF_get0 {v0 v1 v2 v3 : V} : (tF v0 v1 v2 v3).lookup ("cells" : Str) = some v0 := by
  unfold tF
  rw [lookup_put, if_pos rfl]
theorem tF_put0 {v0 v1 v2 v3 z : V} : putF "cells" z (tF v0 v1 v2 v3) = tF z v1 v2 v3 := by
  unfold tF
  simp only [putF, if_true]
theorem tF_get1 {v0 v1 v2 v3 : V} : (tF v0 v1 v2 v3).lookup ("holders" : Str) = some v1 := by
  unfold tF
  rw [lookup_put, if_neg tF_n1_0, lookup_put, if_pos rfl]
theorem tF_put1 {v0 v1 v2 v3 z : V} : putF "holders" z (tF v0 v1 v2 v3) = tF v0 z v2 v3 := by
  unfold tF
  simp only [putF, if_neg tF_n0_1, if_true]
theorem tF_get2 {v0 v1 v2 v3 : V} : (tF v0 v1 v2 v3).lookup ("rows" : Str) = some v2 := by
  unfold tF
  rw [lookup_put, if_neg tF_n2_0, lookup_put, if_neg tF_n2_1, lookup_put, if_pos rfl]
theorem tF_put2 {v0 v1 v2 v3 z : V} : putF "rows" z (tF v0 v1 v2 v3) = tF v0 v1 z v3 := by
  unfold tF
  simp only [putF, if_neg tF_n0_2, if_neg tF_n1_2, if_true]
theorem tF_get3 {v0 v1 v2 v3 : V} : (tF v0 v1 v2 v3).lookup ("sizes" : Str) = some v3 := by
  unfold tF
  rw [lookup_put, if_neg tF_n3_0, lookup_put, if_neg tF_n3_1, lookup_put, if_neg tF_n3_2, lookup_put, if_pos rfl]
theorem tF_put3 {v0 v1 v2 v3 z : V} : putF "sizes" z (tF v0 v1 v2 v3) = tF v0 v1 v2 z := by
  unfold tF
  simp only [putF, if_neg tF_n0_3, if_neg tF_n1_3, if_neg tF_n2_3, if_true]
theorem tF_make0 {v0 : V} : putF "cells" v0 ([] : List (Str × V)) = ([("cells", v0)] : List (Str × V)) := rfl
theorem tF_make1 {v0 v1 : V} : putF "holders" v1 ([("cells", v0)] : List (Str × V)) = ([("cells", v0), ("holders", v1)] : List (Str × V)) := by
  simp only [putF, if_neg tF_n0_1, if_true]
theorem tF_make2 {v0 v1 v2 : V} : putF "rows" v2 ([("cells", v0), ("holders", v1)] : List (Str × V)) = ([("cells", v0), ("holders", v1), ("rows", v2)] : List (Str × V)) := by
  simp only [putF, if_neg tF_n0_2, if_neg tF_n1_2, if_true]
theorem tF_make3 {v0 v1 v2 v3 : V} : putF "sizes" v3 ([("cells", v0), ("holders", v1), ("rows", v2)] : List (Str × V)) = ([("cells", v0), ("holders", v1), ("rows", v2), ("sizes", v3)] : List (Str × V)) := by
  simp only [putF, if_neg tF_n0_3, if_neg tF_n1_3, if_neg tF_n2_3, if_true]
theorem tF_no {v0 v1 v2 v3 : V} {m : Str} (h0 : ¬ m = ("cells" : Str)) (h1 : ¬ m = ("holders" : Str)) (h2 : ¬ m = ("rows" : Str)) (h3 : ¬ m = ("sizes" : Str)) : (tF v0 v1 v2 v3).lookup m = none := by
  unfold tF
  rw [lookup_put, if_neg h0, lookup_put, if_neg h1, lookup_put, if_neg h2, lookup_put, if_neg h3]
  rfl

/-- the things of a run -/
structure TS where
  dx : Addr
  cd : Addr
  cells : List (Key × V)
  hd : Addr
  holders : List (Key × V)
  rd : Addr
  rows : List (Key × V)
  sd : Addr
  sizes : List (Key × V)
structure ThingsAt (K : PySem.W.Frag) (C : Addr) (H : Hp) (th : Addr) (T : TS) : Prop where
  ob : H th = some (.ins C T.dx (tF (.ref T.cd) (.ref T.hd) (.ref T.rd) (.ref T.sd)))
  c : H T.cd = some (.dK T.cells)
  h : H T.hd = some (.dK T.holders)
  r : H T.rd = some (.dK T.rows)
  s : H T.sd = some (.dK T.sizes)
structure TTxt (K : PySem.W.Frag) (C : Addr) : Prop where
  cl : Cls K C
  cells : NoAttr K C "cells"
  holders : NoAttr K C "holders"
  rows : NoAttr K C "rows"
  sizes : NoAttr K C "sizes"
/-- a step of a wish (word, s, ..) upon the things -/
def spStep (K : PySem.W.Frag) (C : Addr) (does : TS → Int → Str → List V → Hp → VK → Prop) : Sp := fun vs H Q _ => ∃ (th wt : Addr) (k : Int) (T : TS) (word s : Str) (rest : List V), vs = [.ref th, .int k, .ref wt] ∧ ThingsAt K C H th T ∧ SqT K H wt (.str word :: .str s :: rest) ∧ does T k s rest H Q
abbrev dLook : TS → Int → Str → List V → Hp → VK → Prop := fun T _ s _ H Q => ∃ v, valV T.cells (Sum.inr s) = some v ∧ Q v H
abbrev dPut : TS → Int → Str → List V → Hp → VK → Prop := fun T _ s rest H Q => ∃ x l, rest = x :: l ∧ T.cells.length < sizeLine ∧ Q .non (upd H T.cd (.dK (putK T.cells (Sum.inr s) x)))
abbrev dSwap : TS → Int → Str → List V → Hp → VK → Prop := fun T _ s rest H Q => ∃ x l v, rest = x :: l ∧ valV T.cells (Sum.inr s) = some v ∧ T.cells.length < sizeLine ∧ Q v (upd H T.cd (.dK (putK T.cells (Sum.inr s) x)))
abbrev dTake : TS → Int → Str → List V → Hp → VK → Prop := fun T k s _ H Q => T.holders.length < sizeLine ∧ Q .non (upd H T.hd (.dK (putK T.holders (Sum.inr s) (.int k))))
abbrev dGive : TS → Int → Str → List V → Hp → VK → Prop := fun T _ s _ H Q => T.holders.length < sizeLine ∧ Q .non (upd H T.hd (.dK (putK T.holders (Sum.inr s) .non)))
abbrev dReach : TS → Int → Str → List V → Hp → VK → Prop := fun T k s _ H Q => ∃ v, valV T.holders (Sum.inr s) = some v ∧ T.holders.length < sizeLine ∧ (v ≠ .non → Q (.bl false) H) ∧ (v = .non → Q (.bl true) (upd H T.hd (.dK (putK T.holders (Sum.inr s) (.int k)))))
section
variable {P : Program} {w : World} {K : PySem.W.Frag} {mg : Str → Option Value} {base : Heap} {C : Addr}
abbrev s_do_look : Stmt := top 38
theorem sc_do_look : FnScope ["things", "k", "wish"] ["things", "k", "wish"] (defScope s_do_look) := ⟨rfl, rfl, rfl, by decide +kernel, rfl, by decide +kernel, by decide +kernel⟩
theorem ok_do_look {f : Addr} {fd : FuncData} (F : Fun K "do_look" "do_look" s_do_look f fd) (X : TTxt K C) : FnOk P w K mg base CX0 1 f fd ["things", "k", "wish"] (spStep K C dLook) := by
  refine F.ok sc_do_look (fun vs H Q E h => ?_) (fun cdv A outer s H vs Q E hr h => ?_)
  · obtain ⟨th, wt, k, T, word, nm, rest, rfl, _⟩ := h
    rfl
  · obtain ⟨th, wt, k, T, word, nm, rest, rfl, hT, hW, hq⟩ := h
    have hu := hu_of hr
    obtain ⟨v, e, hq⟩ := hq
    refine ⟨_, pss_one (ps_ret (pe_dget hu (pe_fld (pv 0) rfl) (pe_ix ix_tup (pv 2) pe_int (fun _ _ => rfl)) (fun _ _ => rfl))), ?_⟩
    exact ⟨_, rfl, th, C, T.dx, _, _, rfl, hT.ob, X.cl, X.cells, tF_get0, _, rfl, wt, _, _, _, rfl, rfl, hW, atI_nat (j := 1) rfl, T.cd, v, rfl, e ▸ DGet.k (k := Sum.inr nm) hT.c, hq⟩
abbrev s_do_put : Stmt := top 39
theorem sc_do_put : FnScope ["things", "k", "wish"] ["things", "k", "wish"] (defScope s_do_put) := ⟨rfl, rfl, rfl, by decide +kernel, rfl, by decide +kernel, by decide +kernel⟩
theorem ok_do_put {f : Addr} {fd : FuncData} (F : Fun K "do_put" "do_put" s_do_put f fd) (X : TTxt K C) : FnOk P w K mg base CX0 1 f fd ["things", "k", "wish"] (spStep K C dPut) := by
  refine F.ok sc_do_put (fun vs H Q E h => ?_) (fun cdv A outer s H vs Q E hr h => ?_)
  · obtain ⟨th, wt, k, T, word, nm, rest, rfl, _⟩ := h
    rfl
  · obtain ⟨th, wt, k, T, word, nm, rest, rfl, hT, hW, hq⟩ := h
    have hu := hu_of hr
    obtain ⟨x, l, rfl, few, hq⟩ := hq
    refine ⟨_, pss_one (ps_dput hu (pe_fld (pv 0) rfl) (pe_ix ix_tup (pv 2) pe_int (fun _ _ => rfl)) (pe_ix ix_tup (pv 2) pe_int (fun _ _ => rfl)) rfl), ?_⟩
    exact ⟨_, rfl, wt, _, _, _, rfl, rfl, hW, atI_nat (j := 2) rfl, _, rfl, th, C, T.dx, _, _, rfl, hT.ob, X.cl, X.cells, tF_get0, _, rfl, wt, _, _, _, rfl, rfl, hW, atI_nat (j := 1) rfl, T.cd, _, rfl, DPut.k (k := Sum.inr nm) hT.c few, hq⟩
abbrev s_do_swap : Stmt := top 40
theorem sc_do_swap : FnScope ["things", "k", "wish", "was"] ["things", "k", "wish"] (defScope s_do_swap) := ⟨rfl, rfl, rfl, by decide +kernel, rfl, by decide +kernel, by decide +kernel⟩
theorem ok_do_swap {f : Addr} {fd : FuncData} (F : Fun K "do_swap" "do_swap" s_do_swap f fd) (X : TTxt K C) : FnOk P w K mg base CX0 1 f fd ["things", "k", "wish"] (spStep K C dSwap) := by
  refine F.ok sc_do_swap (fun vs H Q E h => ?_) (fun cdv A outer s H vs Q E hr h => ?_)
  · obtain ⟨th, wt, k, T, word, nm, rest, rfl, _⟩ := h
    rfl
  · obtain ⟨th, wt, k, T, word, nm, rest, rfl, hT, hW, hq⟩ := h
    have hu := hu_of hr
    obtain ⟨x, l, v, rfl, e, few, hq⟩ := hq
    refine ⟨_, pss_cons (ps_set (i := 3) sc_do_swap.nd rfl (.inl rfl) (pe_dget hu (pe_fld (pv 0) rfl) (pe_ix ix_tup (pv 2) pe_int (fun _ _ => rfl)) (fun _ _ => rfl))) (pss_cons (ps_dput hu (pe_fld (pv 0) rfl) (pe_ix ix_tup (pv 2) pe_int (fun _ _ => rfl)) (pe_ix ix_tup (pv 2) pe_int (fun _ _ => rfl)) rfl) (pss_one (ps_ret (pv 3)))), ?_⟩
    refine ⟨_, rfl, th, C, T.dx, _, _, rfl, hT.ob, X.cl, X.cells, tF_get0, _, rfl, wt, _, _, _, rfl, rfl, hW, atI_nat (j := 1) rfl, T.cd, v, rfl, e ▸ DGet.k (k := Sum.inr nm) hT.c, ?_⟩
    exact ⟨_, rfl, wt, _, _, _, rfl, rfl, hW, atI_nat (j := 2) rfl, _, rfl, th, C, T.dx, _, _, rfl, hT.ob, X.cl, X.cells, tF_get0, _, rfl, wt, _, _, _, rfl, rfl, hW, atI_nat (j := 1) rfl, T.cd, _, rfl, DPut.k (k := Sum.inr nm) hT.c few, _, rfl, hq⟩
abbrev s_do_take : Stmt := top 42
theorem sc_do_take : FnScope ["things", "k", "wish"] ["things", "k", "wish"] (defScope s_do_take) := ⟨rfl, rfl, rfl, by decide +kernel, rfl, by decide +kernel, by decide +kernel⟩
theorem ok_do_take {f : Addr} {fd : FuncData} (F : Fun K "do_take" "do_take" s_do_take f fd) (X : TTxt K C) : FnOk P w K mg base CX0 1 f fd ["things", "k", "wish"] (spStep K C dTake) := by
  refine F.ok sc_do_take (fun vs H Q E h => ?_) (fun cdv A outer s H vs Q E hr h => ?_)
  · obtain ⟨th, wt, k, T, word, nm, rest, rfl, _⟩ := h
    rfl
  · obtain ⟨th, wt, k, T, word, nm, rest, rfl, hT, hW, hq⟩ := h
    have hu := hu_of hr
    obtain ⟨few, hq⟩ := hq
    refine ⟨_, pss_one (ps_dput hu (pe_fld (pv 0) rfl) (pe_ix ix_tup (pv 2) pe_int (fun _ _ => rfl)) (pv 1) rfl), ?_⟩
    exact ⟨_, rfl, _, rfl, th, C, T.dx, _, _, rfl, hT.ob, X.cl, X.holders, tF_get1, _, rfl, wt, _, _, _, rfl, rfl, hW, atI_nat (j := 1) rfl, T.hd, _, rfl, DPut.k (k := Sum.inr nm) hT.h few, hq⟩
abbrev s_do_give : Stmt := top 43
theorem sc_do_give : FnScope ["things", "k", "wish"] ["things", "k", "wish"] (defScope s_do_give) := ⟨rfl, rfl, rfl, by decide +kernel, rfl, by decide +kernel, by decide +kernel⟩
theorem ok_do_give {f : Addr} {fd : FuncData} (F : Fun K "do_give" "do_give" s_do_give f fd) (X : TTxt K C) : FnOk P w K mg base CX0 1 f fd ["things", "k", "wish"] (spStep K C dGive) := by
  refine F.ok sc_do_give (fun vs H Q E h => ?_) (fun cdv A outer s H vs Q E hr h => ?_)
  · obtain ⟨th, wt, k, T, word, nm, rest, rfl, _⟩ := h
    rfl
  · obtain ⟨th, wt, k, T, word, nm, rest, rfl, hT, hW, hq⟩ := h
    have hu := hu_of hr
    obtain ⟨few, hq⟩ := hq
    refine ⟨_, pss_one (ps_dput hu (pe_fld (pv 0) rfl) (pe_ix ix_tup (pv 2) pe_int (fun _ _ => rfl)) pe_non rfl), ?_⟩
    exact ⟨_, rfl, th, C, T.dx, _, _, rfl, hT.ob, X.cl, X.holders, tF_get1, _, rfl, wt, _, _, _, rfl, rfl, hW, atI_nat (j := 1) rfl, T.hd, _, rfl, DPut.k (k := Sum.inr nm) hT.h few, hq⟩
abbrev s_do_reach : Stmt := top 44
theorem sc_do_reach : FnScope ["things", "k", "wish"] ["things", "k", "wish"] (defScope s_do_reach) := ⟨rfl, rfl, rfl, by decide +kernel, rfl, by decide +kernel, by decide +kernel⟩
theorem ok_do_reach {f : Addr} {fd : FuncData} (F : Fun K "do_reach" "do_reach" s_do_reach f fd) (X : TTxt K C) : FnOk P w K mg base CX0 1 f fd ["things", "k", "wish"] (spStep K C dReach) := by
  refine F.ok sc_do_reach (fun vs H Q E h => ?_) (fun cdv A outer s H vs Q E hr h => ?_)
  · obtain ⟨th, wt, k, T, word, nm, rest, rfl, _⟩ := h
    rfl
  · obtain ⟨th, wt, k, T, word, nm, rest, rfl, hT, hW, hq⟩ := h
    have hu := hu_of hr
    obtain ⟨v, e, few, q1, q2⟩ := hq
    refine ⟨_, pss_cons (ps_if (pt_cmpR op_notN (pe_dget hu (pe_fld (pv 0) rfl) (pe_ix ix_tup (pv 2) pe_int (fun _ _ => rfl)) (fun _ _ => rfl)) pe_non (nomark _)) (pss_one (ps_ret pe_bl)) pss_nil) (pss_cons (ps_dput hu (pe_fld (pv 0) rfl) (pe_ix ix_tup (pv 2) pe_int (fun _ _ => rfl)) (pv 1) rfl) (pss_one (ps_ret pe_bl))), ?_⟩
    refine ⟨_, rfl, th, C, T.dx, _, _, rfl, hT.ob, X.cl, X.holders, tF_get1, _, rfl, wt, _, _, _, rfl, rfl, hW, atI_nat (j := 1) rfl, T.hd, v, rfl, e ▸ DGet.k (k := Sum.inr nm) hT.h, rfl, _, rfl, ?_⟩
    by_cases c : v = .non
    · rw [decide_eq_true c]
      refine iteF ?_
      exact ⟨_, rfl, _, rfl, th, C, T.dx, _, _, rfl, hT.ob, X.cl, X.holders, tF_get1, _, rfl, wt, _, _, _, rfl, rfl, hW, atI_nat (j := 1) rfl, T.hd, _, rfl, DPut.k (k := Sum.inr nm) hT.h few, q2 c⟩
    · rw [decide_eq_false c]
      exact iteT (q1 c)
end
end TW
namespace L2
open PySem PySem.Spec PyProof.Rows
/-- the frame of a lambda that has captured the cells cl -/
abbrev cloEnv (q : Str) (scope : Scope) (L f c' : Addr) (cl : List (Str × Addr)) : Env := PySem.W.envX q scope L f (.ref c') cl
def cloCx (P : Program) (w : World) (K : PySem.W.Frag) (mg : Str → Option Value) (base : Heap) (A : Around) (outer : List Env) (s : Shared) (H : Hp) (E : XK) (q : Str) (scope : Scope) (f c' : Addr) (cl : List (Str × Addr)) (N : List Str) : Cx where
  prog := P
  w := w
  K := K
  mg := mg
  base := base
  A := A.deeper (cloEnv q scope s.heap.objs.size f c' cl)
  N := N
  s_0 := s
  H_0 := H
  env := cloEnv q scope s.heap.objs.size f c' cl
  outer := outer
  stack := cloEnv q scope s.heap.objs.size f c' cl :: outer
  ex := []
  fn := fun _ => false
  calm := true
  pn := []
  xe := fun e s' => wpAny (model P w) (A.deeper (cloEnv q scope s.heap.objs.size f c' cl)) (leaving (cloEnv q scope s.heap.objs.size f c' cl) e) (fun _ s'' => L2.CX P w outer H s E e s'') (fun e' s'' => L2.CX P w outer H s E e' s'') s'
/-- a lambda of one parameter y, as it stands in base with what it has captured -/
structure CloAt (base : Heap) (f c' : Addr) (q : Str) (params : Arguments) (body : Expr) (scope : Scope) (cl : List (Str × Addr)) (y : Str) (xs : List Str) (vs : List V) : Prop where
  fn : ∃ pm ctv, base.get? f = some (PySem.W.kla_obj "<lambda>" q params body scope cl pm c' ctv)
  code : ∃ (oc : Obj) (us : Array Value) (t : Tok), base.get? c' = some oc ∧ oc.data = .fields us ∧ us[1]? = some (.str q t)
  kind : scope.kind = .function
  co : scope.isCoroutine = false
  gen : scope.isGenerator = false
  own : ∀ z ∈ scope.names, z.2 ≠ .cell
  par : scope.names.lookup y = some .local
  inj : ∀ x z c, cl.lookup x = some c → cl.lookup z = some c → x = z
  has : ∀ x, scope.names.lookup x = some .free → ∃ c, cl.lookup x = some c
  cells : ∀ x c, cl.lookup x = some c → ∃ v, base.IsCell c v
  caps : ∀ (i : Nat) (x : Str) (v : V), xs[i]? = some x → vs[i]? = some v → ∃ c u, cl.lookup x = some c ∧ scope.names.lookup x = some .free ∧ RelV v u ∧ base.IsCell c (some u)
  len : xs.length = vs.length
  bind : ∀ (pm ctv u : Value), bindArgs (PySem.W.kla_fn "<lambda>" q params body scope cl pm (.ref c') ctv) ⟨[u], []⟩ = pure [(y, u)]
section
variable {P : Program} {w : World} {K : PySem.W.Frag} {mg : Str → Option Value} {base : Heap} {f c' : Addr} {q y : Str} {params : Arguments} {body : Expr} {scope : Scope} {cl : List (Str × Addr)} {xs : List Str} {vs : List V}
theorem clo_start {A : Around} {outer : List Env} {s : Shared} {H : Hp} {E : XK} {v : V} {u : Value} {h₁ : Heap} {tk : Nat} (Z : CloAt base f c' q params body scope cl y xs vs) (e0 : Env0 P w K mg base A outer s H) (hd : A.handled = none) (r : RelV v u)
    (hns : h₁.Ns s.heap.objs.size fun x => ([(y, u)] : List (Str × Value)).reverse.lookup x) (kp : ∀ b o, s.heap.get? b = some o → h₁.get? b = some o) :
    Inv (cloCx P w K mg base A outer s H E q scope f c' cl (y :: xs)) [] (some v :: vs.map some) H { s with heap := h₁, toks := tk } := by
  have noA : ∀ b : Addr, b ∉ (cloCx P w K mg base A outer s H E q scope f c' cl (y :: xs)).ex := fun b z => absurd (show b ∈ ([] : List Addr) from z) (by simp)
  have inS : ∀ {c : Addr} {z : Option Value}, base.IsCell c z → s.heap.IsCell c z ∧ H c = none := fun {c z} ⟨o, ho, hd⟩ => ⟨⟨o, (e0.bs c o ho).1, hd⟩, (e0.bs c o ho).2⟩
  refine ⟨⟨e0.mod, Z.kind, rfl, rfl, Nat.le_refl _, Z.inj, fun x hx => ?_, fun x c z _ => ?_, fun _ => hd, Around.frames_deeper e0.frames, .inr ⟨rfl, rfl⟩, fun b z => absurd z (noA b), e0.bs, e0.bsz, fun b _ _ => noA b,
      fun b z => absurd z (noA b), e0.funs, e0.frf⟩,
    rfl, e0.bare, Un.kept kp, ⟨_, hns, fun i x z e1 e2 e3 => ?_⟩, fun x c e => ?_, e0.hok.fresh (Nat.le_refl _), fun x c e => ?_, fun p hp => absurd (show p ∈ ([] : List (Addr × Obj)) ++ [] from hp) (by simp), e0.hok.kept kp, ?_⟩
  · have hx : scope.names.lookup x = some .cell ∨ scope.names.lookup x = some .free := hx
    rcases hx with hx | hx
    · exact absurd rfl (Z.own _ (PySem.mem_of_lookup hx))
    · exact Z.has x hx
  · have z : false = true := z
    cases z
  · cases i with
    | zero =>
      have ex : y = x := Option.some.inj e1
      have ev : v = z := Option.some.inj (Option.some.inj e2)
      subst ex
      subst ev
      refine ⟨u, r, .inl ⟨Z.par, ?_⟩⟩
      simp [List.lookup]
    | succ i =>
      have e1' : xs[i]? = some x := e1
      have e2' : (vs.map some)[i]? = some (some z) := e2
      rw [List.getElem?_map] at e2'
      obtain ⟨z', h1, h2⟩ := Option.map_eq_some_iff.mp e2'
      cases h2
      obtain ⟨c, u', l1, l2, r', hc⟩ := Z.caps i x z e1' h1
      exact ⟨u', r', .inr ⟨.inr l2, c, l1, (inS hc).1.keeps kp⟩⟩
  · obtain ⟨z, hz⟩ := Z.cells x c e
    exact ⟨z, (inS hz).1.keeps kp⟩
  · obtain ⟨z, hz⟩ := Z.cells x c e
    exact (inS hz).2
  · show (some v :: vs.map some).length = (y :: xs).length
    simp [Z.len]
/-- such a lambda, called: its body's reading, the captured values in the slots behind the parameter's -/
theorem fnR_clo {k : Nat} {tb : XK → TE} (Z : CloAt base f c' q params body scope cl y xs vs)
    (hbody : ∀ (A : Around) (outer : List Env) (s : Shared) (H : Hp) (E : XK), Room k (A.deeper (cloEnv q scope s.heap.objs.size f c' cl)) → PE (cloCx P w K mg base A outer s H E q scope f c' cl (y :: xs)) body (tb E)) :
    FnR P w K mg base (L2.CX P w) (k + 1) f (fun ws H Q E => ∃ v, ws = [v] ∧ tb E (some v :: vs.map some) H Q) := by
  intro A outer s H us ws Q E hr e0 r ⟨v, ew, ht⟩
  subst ew
  cases r with
  | @cons _ u _ ur r0 rn =>
    cases rn
    obtain ⟨pm, ctv, o⟩ := Z.fn
    obtain ⟨oc, as, t, hoc, hdc, hvc⟩ := Z.code
    refine PySem.W.kla_callFunE hr.depth (e0.bs _ _ o).1 rfl Z.co Z.gen rfl ⟨c', oc, as, t, rfl, (e0.bs _ _ hoc).1, hdc, hvc⟩ ?_
    rw [Z.bind]
    refine wpAny_pure (wpAny_newFunctionEnv Z.own (fun z hz => by rw [List.mem_singleton.mp hz]; exact Z.par) (fun h₁ hns hsb => ?_) Z.kind)
    have lim : s.heap.NoLimit := e0.mod.nolimit.keeps fun b o e => (e0.bs b o e).1
    refine ⟨lim.fresh _ hsb, ?_⟩
    have kp : ∀ b o, s.heap.get? b = some o → h₁.get? b = some o := fun b o e => hsb.extBut b o (Nat.ne_of_lt (Heap.lt_size e)) (Heap.get?_push_of_some _ e)
    have J := clo_start (tk := s.toks + ([(y, u)] : List (Str × Value)).length) (E := E) Z e0 hr.hd r0 hns kp
    refine PySem.W.kla_codeExpr (wpAny_mono ((hbody A outer s H E (hr.deeper _)).run [] _ _ H Q J ht) (fun z s' hq => ?_) fun e s' hq => hq)
    obtain ⟨v', H', J', rv, q⟩ := hq
    exact ⟨v', H', J'.os, J'.bare, J'.base, J'.hok, rv, q⟩
end
end L2
namespace L2
open PySem PySem.Spec PyProof.Rows
/-- H without what it tracks at the places of L -/
def hidL (H : Hp) (L : List Addr) : Hp := fun b => if b ∈ L then none else H b
/-- H' with what H tracked there -/
def reL (H H' : Hp) (L : List Addr) : Hp := fun b => if b ∈ L then H b else H' b
theorem hidL_in {H : Hp} {L : List Addr} {b : Addr} (h : b ∈ L) : hidL H L b = none := if_pos h
theorem hidL_out {H : Hp} {L : List Addr} {b : Addr} (h : b ∉ L) : hidL H L b = H b := if_neg h
theorem reL_in {H H' : Hp} {L : List Addr} {b : Addr} (h : b ∈ L) : reL H H' L b = H b := if_pos h
theorem reL_out {H H' : Hp} {L : List Addr} {b : Addr} (h : b ∉ L) : reL H H' L b = H' b := if_neg h
theorem hidL_none {H : Hp} {L : List Addr} {b : Addr} (h : H b = none) : hidL H L b = none := by
  by_cases m : b ∈ L
  · exact hidL_in m
  · rw [hidL_out m]
    exact h
/-- all that L holds is told of one object alone -/
def ExtL (H : Hp) (L : List Addr) : Prop := ∀ b ∈ L, ∃ φ, H b = some (.ext φ)
theorem ExtL.out {H : Hp} {L : List Addr} (x : ExtL H L) {b : Addr} {o : HO} (e : H b = some o) (n : ∀ φ, o ≠ .ext φ) : b ∉ L := fun m => by
  obtain ⟨φ, q⟩ := x b m
  rw [q] at e
  exact n φ (Option.some.inj e).symm
theorem ExtL.free {H : Hp} {L : List Addr} (x : ExtL H L) {b : Addr} (e : H b = none) : b ∉ L := fun m => by
  obtain ⟨φ, q⟩ := x b m
  rw [q] at e
  cases e
theorem funFrames_more {h B G : Heap} : ∀ {l : List Env}, h.FunFrames B l → (∀ b ∈ frs l, G.get? b = none) → h.FunFrames G l
  | [], _, _ => trivial
  | env :: r, ⟨h1, ⟨L, o, e1, e2, e3, e4⟩, h3⟩, n => by
    refine ⟨h1, ⟨L, o, e1, n L ?_, e3, e4⟩, funFrames_more h3 fun b hb => n b ?_⟩
    · unfold frs
      rw [List.filterMap_cons, e1]
      exact List.mem_cons_self ..
    · unfold frs at hb ⊢
      rw [List.filterMap_cons, e1]
      exact List.mem_cons_of_mem _ hb
section
variable {X : Cx} {pins : List (Addr × Obj)} {σ : St} {H : Hp} {s : Shared} {L S : List Addr}
theorem hok_hid (x : HOk X.prog X.w H s.heap) (hL : ExtL H L) : HOk X.prog X.w (hidL H L) s.heap := fun b o e => by
  have hb : b ∉ L := fun m => by
    rw [hidL_in m] at e
    cases e
  rw [hidL_out hb] at e
  refine (x b o e).stay (fun c u _ q => q) (fun c q => ?_) (fun c xs q => ?_)
  · rw [hidL_out (hL.out q (fun _ z => by cases z))]
    exact q
  · rw [hidL_out (hL.out q (fun _ z => by cases z))]
    exact q
/-- a base that holds S too; what L holds is not tracked meanwhile -/
theorem base_more (I : Inv X pins σ H s) (hL : ExtL H L) (hS : ∀ b ∈ S, hidL H L b = none) (hf : ∀ b ∈ S, b ∉ frs X.stack) :
    ∃ B : Heap, (∀ b o, X.base.get? b = some o → B.get? b = some o) ∧ (∀ b o, b ∈ S → s.heap.get? b = some o → B.get? b = some o) ∧ Env0 X.prog X.w X.K X.mg B X.A X.stack s (hidL H L) := by
  have key : ∃ G : Heap, (∀ b o, s.heap.get? b = some o → ((X.base.get? b).isSome || decide (b ∈ S)) = true → G.get? b = some o) ∧ (∀ b o, G.get? b = some o → s.heap.get? b = some o ∧ ((X.base.get? b).isSome || decide (b ∈ S)) = true) ∧ G.objs.size = s.heap.objs.size := by
    refine ⟨PySem.W.hideAll s.heap ((List.range s.heap.objs.size).filter fun b => !((X.base.get? b).isSome || decide (b ∈ S))), fun b o e h => ?_, fun b o e => ⟨PySem.W.of_hideAll _ e, ?_⟩, PySem.W.hideAll_size _ _⟩
    · refine PySem.W.hideAll_get _ e fun m => ?_
      have z := (List.mem_filter.mp m).2
      rw [h] at z
      cases z
    · cases q : ((X.base.get? b).isSome || decide (b ∈ S)) with
      | true => rfl
      | false =>
        have lt : b < s.heap.objs.size := Heap.lt_size (PySem.W.of_hideAll _ e)
        have m : b ∈ (List.range s.heap.objs.size).filter fun b => !((X.base.get? b).isSome || decide (b ∈ S)) := List.mem_filter.mpr ⟨List.mem_range.mpr lt, by simp [q]⟩
        rw [PySem.W.hideAll_none _ m] at e
        cases e
  obtain ⟨G, g1, g2, g3⟩ := key
  have old : ∀ b o, X.base.get? b = some o → G.get? b = some o := fun b o e => g1 b o (I.bk b o e) (by rw [e]; rfl)
  have M := I.mod
  obtain ⟨mb, hb1, hb2⟩ := M.blt
  refine ⟨G, old, fun b o m e => g1 b o e (by simp [m]), I.ok.frames, ⟨M.kin.keeps old, M.glob.keeps old, ⟨mb, hb1.keeps old, hb2⟩, M.nolimit.keeps old⟩, fun b o e => ?_, Nat.le_of_eq g3, funFrames_more I.stack fun b hb => ?_, fun b hb => hidL_none (I.stkFree b hb), hok_hid I.hok hL, I.bare⟩
  · obtain ⟨e1, e2⟩ := g2 b o e
    refine ⟨e1, ?_⟩
    by_cases m : b ∈ S
    · exact hS b m
    · have q : (X.base.get? b).isSome = true := by simpa [m] using e2
      obtain ⟨o', q⟩ := Option.isSome_iff_exists.mp q
      exact hidL_none (I.bs b o' q).2
  · cases q : G.get? b with
    | none => rfl
    | some o =>
      obtain ⟨_, e2⟩ := g2 b o q
      have nb : X.base.get? b = none := (I.stack.mem hb).1
      have m : b ∉ S := fun m => hf b m hb
      rw [nb] at e2
      simp [m] at e2
/-- behind the call what L holds is tracked again -/
theorem ce_back {Q : VK} {u : Value} {s' : Shared} (I : Inv X pins σ H s) (hL : ExtL H L) (h : CE X.stack X.prog X.w (hidL H L) s (fun v H' => Q v (reL H H' L)) u s') : CE X.stack X.prog X.w H s Q u s' := by
  obtain ⟨v, H', os, bare, un, hok, r, q⟩ := h
  have there : ∀ b ∈ L, ∃ o, s.heap.get? b = some o ∧ s'.heap.get? b = some o ∧ H' b = none := fun b m => by
    obtain ⟨φ, e⟩ := hL b m
    obtain ⟨_, ⟨o, ho⟩, _⟩ := (show ObjOk X.prog X.w H s.heap b (.ext φ) from I.hok b _ e)
    have nf : b ∉ frs X.stack := fun z => by
      rw [I.stkFree b z] at e
      cases e
    exact ⟨o, ho, un.keep b o ho (hidL_in m) nf (by simp), un.free b o ho (hidL_in m) (by simp)⟩
  have outL : ∀ {b : Addr} {o : HO}, H' b = some o → b ∉ L := fun {b o} e m => by
    obtain ⟨_, _, _, z⟩ := there b m
    rw [z] at e
    cases e
  refine ⟨v, reL H H' L, os, bare, ⟨fun b o e n f x => un.keep b o e (hidL_none n) f x, fun b o e n f x => un.slot b o e (hidL_none n) f x, fun b o e n x => ?_, fun b o e x => un.there b o e x, fun b xs e => ?_, fun b o u e => ?_, fun b ps e => ?_⟩, fun b o e => ?_, r, q⟩
  · rw [reL_out (hL.free n)]
    exact un.free b o e (hidL_none n) x
  · have m := hL.out e (fun _ z => by cases z)
    rw [reL_out m]
    exact un.tups b xs (by rw [hidL_out m]; exact e)
  · have m := hL.out e (fun _ z => by cases z)
    rw [reL_out m]
    exact un.frzs b o u (by rw [hidL_out m]; exact e)
  · have m := hL.out e (fun _ z => by cases z)
    rw [reL_out m]
    exact un.tbls b ps (by rw [hidL_out m]; exact e)
  · by_cases m : b ∈ L
    · rw [reL_in m] at e
      obtain ⟨φ, e'⟩ := hL b m
      rw [e'] at e
      cases e
      obtain ⟨p, _, st⟩ := (show ObjOk X.prog X.w H s.heap b (.ext φ) from I.hok b _ e')
      obtain ⟨o, h1, h2, _⟩ := there b m
      exact ⟨st _ _ p fun o' z => by rw [h1] at z; cases z; exact h2, ⟨o, h2⟩, st⟩
    · rw [reL_out m] at e
      refine (hok b o e).stay (fun c u _ z => z) (fun c z => ?_) (fun c xs z => ?_)
      · rw [reL_out (outL z)]
        exact z
      · rw [reL_out (outL z)]
        exact z
end
end L2
namespace L2
open PySem PySem.Spec PyProof.Rows
/-- what a larger base is known to hold: what L tracked, and the cells of the def at hand -/
structure Known (X : Cx) (σ : St) (H : Hp) (L : List Addr) (B : Heap) : Prop where
  old : ∀ b o, X.base.get? b = some o → B.get? b = some o
  ext : ∀ b ∈ L, ∀ φ, H b = some (.ext φ) → φ B
  cell : ∀ (i : Nat) (y : Str) (v : V) (c : Addr), X.N[i]? = some y → σ[i]? = some (some v) → X.env.scope.names.lookup y = some .cell → X.env.cells.lookup y = some c → ∃ u, RelV v u ∧ B.IsCell c (some u)
  any : ∀ (y : Str) (c : Addr), X.env.cells.lookup y = some c → ∃ z, B.IsCell c z
section
variable {X : Cx} {pins : List (Addr × Obj)} {σ : St} {H : Hp} {s : Shared} {L : List Addr}
theorem known_base (I : Inv X pins σ H s) (hL : ExtL H L) (hfn : ∀ y, X.fn y = true) : ∃ B : Heap, Known X σ H L B ∧ Env0 X.prog X.w X.K X.mg B X.A X.stack s (hidL H L) := by
  have cellIn : ∀ c ∈ X.env.cells.map (·.2), ∃ y, X.env.cells.lookup y = some c ∨ True := fun c _ => ⟨"", .inr trivial⟩
  have hS : ∀ b ∈ L ++ (X.env.cells.filterMap fun p => X.env.cells.lookup p.1), hidL H L b = none := fun b hb => by
    rcases List.mem_append.mp hb with m | m
    · exact hidL_in m
    · obtain ⟨p, _, e⟩ := List.mem_filterMap.mp m
      exact hidL_none (I.freeC p.1 b e)
  have hf : ∀ b ∈ L ++ (X.env.cells.filterMap fun p => X.env.cells.lookup p.1), b ∉ frs X.stack := fun b hb z => by
    rcases List.mem_append.mp hb with m | m
    · obtain ⟨φ, e⟩ := hL b m
      rw [I.stkFree b z] at e
      cases e
    · obtain ⟨p, _, e⟩ := List.mem_filterMap.mp m
      rcases List.mem_cons.mp (I.stkSub b z) with q | q
      · exact I.cne p.1 b e q
      · obtain ⟨_, o, ho, _⟩ := I.ok.funs.mem q
        exact absurd (Nat.lt_of_lt_of_le (Heap.lt_size ho) (I.ok.cab p.1 b (hfn p.1) e)) (Nat.lt_irrefl _)
  have inS : ∀ {y : Str} {c : Addr}, X.env.cells.lookup y = some c → c ∈ L ++ (X.env.cells.filterMap fun p => X.env.cells.lookup p.1) := fun {y c} e =>
    List.mem_append_right _ (List.mem_filterMap.mpr ⟨(y, c), PySem.mem_of_lookup e, e⟩)
  obtain ⟨B, b1, b2, b3⟩ := base_more I hL hS hf
  refine ⟨B, ⟨b1, fun b m φ e => ?_, fun i y v c e1 e2 e3 e4 => ?_, fun y c e => ?_⟩, b3⟩
  · obtain ⟨p, ⟨o, ho⟩, st⟩ := (show ObjOk X.prog X.w H s.heap b (.ext φ) from I.hok b _ e)
    exact st _ _ p fun o' z => b2 b o' (List.mem_append_left _ m) z
  · obtain ⟨m, _, hl⟩ := I.loc
    obtain ⟨u, r, q⟩ := hl i y v e1 e2 (.inr (.inl e3))
    rcases q with ⟨k, _⟩ | ⟨_, c2, e, o, ho, hd⟩
    · have k : X.env.scope.names.lookup y = some .local := k
      rw [e3] at k
      cases k
    · rw [e4] at e
      cases e
      exact ⟨u, r, o, b2 c o (inS e4) ho, hd⟩
  · obtain ⟨z, o, ho, hd⟩ := I.cell y c e
    exact ⟨z, o, b2 c o (inS e) ho, hd⟩
theorem cx_false {P : Program} {w : World} {outer : List Env} {e : Value} {s' : Shared} (h : L2.CX P w outer H s (fun _ _ _ => False) e s') : False := by
  obtain ⟨_, _, _, _, _, _, _, _, _, _, _, _, z⟩ := h
  exact z
/-- a def that keeps its promise over every base, called from one that holds what it needs besides; nothing is raised -/
theorem run_fnH {k : Nat} {f : Addr} {fd : FuncData} {ps : List Str} {ds : List Value} {dvs : List V} {sp : Heap → Sp} {Q : VK} {us : List Value} {vs : List V} (F : ∀ B, (∀ b o, X.base.get? b = some o → B.get? b = some o) → FnOk X.prog X.w X.K X.mg B (L2.CX X.prog X.w) k f fd ps (sp B)) (hr : Room k X.A)
    (hb : Binds X.K fd ps ds) (hd : Vals dvs ds) (hfn : ∀ y, X.fn y = true) (I : Inv X pins σ H s) (r : Vals vs us)
    (h : ∃ L, ExtL H L ∧ ∀ B, Known X σ H L B → sp B (vs ++ dvs) (hidL H L) (fun v H' => Q v (reL H H' L)) (fun _ _ _ => False)) : wpAny (model X.prog X.w) X.A (call (.ref f) us) (EP X pins σ Q) X.xe s := by
  obtain ⟨L, hL, h⟩ := h
  obtain ⟨B, kb, e0⟩ := known_base I hL hfn
  have q := h B kb
  have G := F B kb.old
  have r2 : Vals (vs ++ dvs) (us ++ ds) := r.append hd
  have hl : (us ++ ds).length = ps.length := by
    rw [← r2.length]
    exact G.len _ _ _ _ q
  refine wpAny_call (codeAny_mono (G.run X.A X.stack s (hidL H L) ⟨us, []⟩ (us ++ ds) (vs ++ dvs) _ _ hr e0 (hb s us I.kIn hl) r2 q) fun res s' back => ?_)
  cases res with
  | error e => exact (cx_false back).elim
  | ok fl =>
    cases fl with
    | ret u => exact I.after (ce_back I hL back)
    | next => exact False.elim back
    | brk => exact False.elim back
    | cont => exact False.elim back
/-- what such a call reads -/
def tCallH (X : Cx) (sp : Heap → Sp) (dvs : List V) (t : TA) : TE := fun σ H Q => t σ H fun vs H1 => ∃ L, ExtL H1 L ∧ ∀ B, Known X σ H1 L B → sp B (vs ++ dvs) (hidL H1 L) (fun v H' => Q v (reL H1 H' L)) (fun _ _ _ => False)
end
section
variable {X : Cx} {k : Nat} {f C : Addr} {fd : FuncData} {ps : List Str} {ds : List Value} {dvs : List V} {sp : Heap → Sp} {x m : Str} {p pos apos : Pos} {e o : Expr} {es : List Expr} {t ta : TA} {to : TE}
theorem pe_callH (F : ∀ B, (∀ b o, X.base.get? b = some o → B.get? b = some o) → FnOk X.prog X.w X.K X.mg B (L2.CX X.prog X.w) k f fd ps (sp B)) (hr : Room k X.A) (hg : Gl X x) (hm : X.mg x = some (.ref f)) (hk : PySem.W.keepIn X.K (.ref f) = true) (hb : Binds X.K fd ps ds) (hd : Vals dvs ds) (hfn : ∀ y, X.fn y = true) (ha : PA X (e :: es) t)
    (hdb : (x == ("__debug__" : Str)) = false := by decide) (he : starEach (e :: es) X.env = (false, eval e X.env) :: starEach es X.env := by rfl) (hpl : (backTo pos (starEach es X.env)).any (·.1) = false := by rfl) :
    PE X (.Call (.Name x p) (e :: es) [] pos) (tCallH X sp dvs t) := by
  refine ⟨fun pins s σ H Q I h => ?_⟩
  refine wpAny_Call_Name_kw (ld_glob I hg hm ?_ hdb)
  exact PySem.W.callWith_K (h₀ := X.base) I.ok.mod.kin hk (thn (ha.run pos pins s σ H _ I h) fun us s1 ⟨vs, H1, I1, r, q⟩ => ⟨I1.kIn, run_fnH F hr hb hd hfn I1 r q⟩) he hpl
/-- o.m(e, ..) likewise -/
def tMethH (X : Cx) (C : Addr) (m : Str) (sp : Heap → Sp) (dvs : List V) (to : TE) (t : TA) : TE := fun σ H Q => to σ H fun y H1 => ∃ a dx fs, y = .ref a ∧ H1 a = some (.ins C dx fs) ∧ fs.lookup m = none ∧
  t σ H1 fun vs H2 => ∃ L, ExtL H2 L ∧ ∀ B, Known X σ H2 L B → sp B (.ref a :: (vs ++ dvs)) (hidL H2 L) (fun v H' => Q v (reL H2 H' L)) (fun _ _ _ => False)
theorem pe_methH {pl : Sem Bool} (he : PE X o to) (c : Cls X.K C) (hm : Meth X.K C m f) (F : ∀ B, (∀ b o, X.base.get? b = some o → B.get? b = some o) → FnOk X.prog X.w X.K X.mg B (L2.CX X.prog X.w) k f fd ps (sp B)) (hr : Room k X.A) (hb : Binds X.K fd ps ds) (hd : Vals dvs ds) (hfn : ∀ y, X.fn y = true) (ha : PA X (e :: es) t)
    (hst : starEach (e :: es) X.env = (false, eval e X.env) :: starEach es X.env := by rfl) (hpl : (backTo pos (starEach es X.env)).any (·.1) = false := by rfl)
    (ht : eval (.Call (.Attribute o m apos) (e :: es) [] pos) X.env = (do
      let ov ← eval o X.env
      standAt apos.atName
      let (f, first) ← holding [ov] (getMethod ov m pl)
      callWith pos f first (backTo pos (starEach (e :: es) X.env)) (backToKw pos (keywordEach [] X.env))) := by rfl) :
    PE X (.Call (.Attribute o m apos) (e :: es) [] pos) (tMethH X C m sp dvs to t) := by
  refine ⟨fun pins s σ H Q I h => ?_⟩
  refine PySem.W.methodCall_KW (pl := pl) (thn (he.run pins s σ H _ I h) fun u s1 ⟨y, H1, I1, rx, a, dx, fs, ex, ea, l, q⟩ => ?_) ht
  subst ex
  obtain rfl : u = Value.ref a := rx
  refine getmeth_ok I1 ea c hm l ?_
  refine PySem.W.callWith_K (first := [.ref a]) (h₀ := X.base) I.ok.mod.kin hm.kp (thn (ha.run pos pins s1 σ H1 _ I1 q) fun us s2 ⟨vs, H2, I2, r, q2⟩ => ⟨I2.kIn, ?_⟩) hst hpl
  exact run_fnH (us := .ref a :: us) (vs := .ref a :: vs) F hr hb hd hfn I2 (.cons rfl r) q2
/-- x(e, ..), x a local name that holds what can be called over the base at hand -/
theorem pe_callW {i : Nat} {E : XK} (hr : Room k X.A) (hN : X.N[i]? = some x) (hv : Vis X.env.scope x) (hx : Passes (L2.CX X.prog X.w) X E) (ha : PA X (e :: es) t) (hd : (x == ("__debug__" : Str)) = false := by decide) (hcd : (x == ("__classdict__" : Str)) = false := by decide)
    (he : starEach (e :: es) X.env = (false, eval e X.env) :: starEach es X.env := by rfl) (hpl : (backTo pos (starEach es X.env)).any (·.1) = false := by rfl) :
    PE X (.Call (.Name x p) (e :: es) [] pos) (fun σ H Q => ∃ (g : Addr) (s1 : Sp), σ[i]? = some (some (.ref g)) ∧ FnR X.prog X.w X.K X.mg X.base (L2.CX X.prog X.w) k g s1 ∧ PySem.W.FnAt g X.base ∧ t σ H fun vs H1 => s1 vs H1 Q E) := by
  refine ⟨fun pins s σ H Q I h => ?_⟩
  obtain ⟨g, sq, hs, F, ⟨oc, od, fdd, sl, hat⟩, ht⟩ := h
  refine wpAny_Call_Name_kw (thn ((pe_var (pos := p) hN hv hd hcd).run pins s σ H (fun v H1 => v = .ref g ∧ H1 = H) I ⟨.ref g, hs, rfl, rfl⟩) fun u s1 ⟨v, H1, I1, r1, q1⟩ => ?_)
  obtain ⟨ev, eH⟩ := q1
  subst ev
  subst eH
  obtain rfl : u = Value.ref g := r1
  exact PySem.W.callWith_F ⟨_, _, _, _, I1.bk _ _ hat⟩ (thn (ha.run pos pins s1 σ H1 _ I1 ht) fun us s2 ⟨vs, H2, I2, r, q⟩ => ⟨⟨_, _, _, _, I2.bk _ _ hat⟩, wpAny_call (run_fnR F hr hx I2 r q)⟩) he hpl
end
/-- a def as what it does with the values that come -/
theorem fnR_of {P : Program} {w : World} {K : PySem.W.Frag} {mg : Str → Option Value} {base : Heap} {CX : CXT} {k : Nat} {f : Addr} {fd : FuncData} {ps : List Str} {sp : Sp} (F : FnOk P w K mg base CX k f fd ps sp) (hb : Binds K fd ps []) : FnR P w K mg base CX k f sp := by
  intro A outer s H us vs Q E hr e0 r h
  have KX : K.In s.heap := e0.mod.kin.keeps fun b o e => (e0.bs b o e).1
  have hl : us.length = ps.length := by
    rw [← r.length]
    exact F.len _ _ _ _ h
  have z := hb s us KX (by rw [List.append_nil]; exact hl)
  rw [List.append_nil] at z
  exact F.run A outer s H ⟨us, []⟩ us vs Q E hr e0 z r h
end L2
namespace L2
open PySem PySem.Spec PyProof.Rows
section
variable {X : Cx} {k i : Nat} {x : Str} {p pos : Pos} {e : Expr} {es : List Expr} {t : TA}
/-- x(e, ..), x a local name that holds what can be called; what it raises is wished for at the caller's slots -/
theorem pe_callWS {E : St → XK} (hr : Room k X.A) (hN : X.N[i]? = some x) (hv : Vis X.env.scope x) (hx : ∀ σ, PassesAt (L2.CX X.prog X.w) X σ (E σ)) (ha : PA X (e :: es) t) (hd : (x == ("__debug__" : Str)) = false := by decide) (hcd : (x == ("__classdict__" : Str)) = false := by decide)
    (he : starEach (e :: es) X.env = (false, eval e X.env) :: starEach es X.env := by rfl) (hpl : (backTo pos (starEach es X.env)).any (·.1) = false := by rfl) :
    PE X (.Call (.Name x p) (e :: es) [] pos) (fun σ H Q => ∃ (g : Addr) (s1 : Sp), σ[i]? = some (some (.ref g)) ∧ FnR X.prog X.w X.K X.mg X.base (L2.CX X.prog X.w) k g s1 ∧ PySem.W.FnAt g X.base ∧ t σ H fun vs H1 => s1 vs H1 Q (E σ)) := by
  refine ⟨fun pins s σ H Q I h => ?_⟩
  obtain ⟨g, sq, hs, F, ⟨oc, od, fdd, sl, hat⟩, ht⟩ := h
  refine wpAny_Call_Name_kw (thn ((pe_var (pos := p) hN hv hd hcd).run pins s σ H (fun v H1 => v = .ref g ∧ H1 = H) I ⟨.ref g, hs, rfl, rfl⟩) fun u s1 ⟨v, H1, I1, r1, q1⟩ => ?_)
  obtain ⟨ev, eH⟩ := q1
  subst ev
  subst eH
  obtain rfl : u = Value.ref g := r1
  refine PySem.W.callWith_F ⟨_, _, _, _, I1.bk _ _ hat⟩ (thn (ha.run pos pins s1 σ H1 _ I1 ht) fun us s2 ⟨vs, H2, I2, r, q⟩ => ⟨⟨_, _, _, _, I2.bk _ _ hat⟩, ?_⟩) he hpl
  refine wpAny_call (codeAny_mono (F X.A X.stack s2 H2 us vs Q (E σ) hr I2.env0 r q) fun res s' back => ?_)
  cases res with
  | error er => exact hx σ pins H2 s2 er s' I2 back
  | ok fl =>
    cases fl with
    | ret z => exact I2.after back
    | next => exact False.elim back
    | brk => exact False.elim back
    | cont => exact False.elim back
end
/-- a promise, wished for less -/
def spUp (s1 : Sp) : Sp := fun vs H Q E => ∃ (Q0 : VK) (E0 : XK), s1 vs H Q0 E0 ∧ (∀ v H', Q0 v H' → Q v H') ∧ (∀ cls d H', E0 cls d H' → E cls d H')
theorem cx_up {P : Program} {w : World} {outer : List Env} {H : Hp} {s : Shared} {E0 E : XK} {u : Value} {s' : Shared} (h : ∀ cls d H', E0 cls d H' → E cls d H') (c : L2.CX P w outer H s E0 u s') : L2.CX P w outer H s E u s' := by
  obtain ⟨a, B, H', cls, d, e1, e2, e3, e4, e5, e6, e7, e8⟩ := c
  exact ⟨a, B, H', cls, d, e1, e2, e3, e4, e5, e6, e7, h _ _ _ e8⟩
theorem cr_up {P : Program} {w : World} {outer : List Env} {H : Hp} {s : Shared} {Q0 Q : VK} {E0 E : XK} {r : Result} {s' : Shared} (hq : ∀ v H', Q0 v H' → Q v H') (h : ∀ cls d H', E0 cls d H' → E cls d H') (c : CR (L2.CX P w) outer P w H s Q0 E0 r s') : CR (L2.CX P w) outer P w H s Q E r s' := by
  cases r with
  | error e => exact cx_up h c
  | ok fl =>
    cases fl with
    | ret u =>
      obtain ⟨v, H', e1, e2, e3, e4, e5, e6⟩ := c
      exact ⟨v, H', e1, e2, e3, e4, e5, hq _ _ e6⟩
    | next => exact False.elim c
    | brk => exact False.elim c
    | cont => exact False.elim c
theorem fnR_up {P : Program} {w : World} {K : PySem.W.Frag} {mg : Str → Option Value} {base : Heap} {k : Nat} {f : Addr} {s1 : Sp} (F : FnR P w K mg base (L2.CX P w) k f s1) : FnR P w K mg base (L2.CX P w) k f (spUp s1) := by
  intro A outer s H us vs Q E hr e0 r h
  obtain ⟨Q0, E0, h1, h2, h3⟩ := h
  exact codeAny_mono (F A outer s H us vs Q0 E0 hr e0 r h1) fun res s' c => cr_up h2 h3 c
/-- what a call of the callable that slot i holds reads -/
def tCallW (P : Program) (w : World) (K : PySem.W.Frag) (mg : Str → Option Value) (base : Heap) (k i : Nat) (E : St → XK) (t : TA) : TE := fun σ H Q =>
  ∃ (g : Addr) (s1 : Sp), σ[i]? = some (some (.ref g)) ∧ FnR P w K mg base (L2.CX P w) k g s1 ∧ PySem.W.FnAt g base ∧ t σ H fun vs H1 => s1 vs H1 Q (E σ)
theorem pe_callWT {X : Cx} {k i j : Nat} {x y : Str} {p pos p2 : Pos} {W : WX} {pn : List (Addr × Obj)} {xe : Value → Shared → Prop} (hr : Room k X.A) (hN : X.N[i]? = some x) (hv : Vis X.env.scope x) (hN2 : X.N[j]? = some y) (hv2 : Vis X.env.scope y) (tk : Takes (X.tr pn xe) W)
    (hd : (x == ("__debug__" : Str)) = false := by decide) (hcd : (x == ("__classdict__" : Str)) = false := by decide) (hd2 : (y == ("__debug__" : Str)) = false := by decide) (hcd2 : (y == ("__classdict__" : Str)) = false := by decide) :
    PE (X.tr pn xe) (.Call (.Name x p) [.Name y p2] [] pos) (tCallW X.prog X.w X.K X.mg X.base k i (WE W) (tCons (tVar j) tNil)) :=
  pe_callWS (X := X.tr pn xe) hr hN hv (fun σ => passAt tk σ) (pa_cons (pe_var (X := X.tr pn xe) hN2 hv2 hd2 hcd2) pa_nil) hd hcd
end L2
namespace TW
open PySem PySem.Spec PyProof.Rows L2
theorem pF_n0_1 : ¬ (("answers" : Str) = "pending") := by decide +kernel
theorem pF_n0_2 : ¬ (("answers" : Str) = "end") := by decide +kernel
theorem pF_n0_3 : ¬ (("answers" : Str) = "words") := by decide +kernel
theorem pF_n1_0 : ¬ (("pending" : Str) = "answers") := by decide +kernel
theorem pF_n1_2 : ¬ (("pending" : Str) = "end") := by decide +kernel
theorem pF_n1_3 : ¬ (("pending" : Str) = "words") := by decide +kernel
theorem pF_n2_0 : ¬ (("end" : Str) = "answers") := by decide +kernel
theorem pF_n2_1 : ¬ (("end" : Str) = "pending") := by decide +kernel
theorem pF_n2_3 : ¬ (("end" : Str) = "words") := by decide +kernel
theorem pF_n3_0 : ¬ (("words" : Str) = "answers") := by decide +kernel
theorem pF_n3_1 : ¬ (("words" : Str) = "pending") := by decide +kernel
theorem pF_n3_2 : ¬ (("words" : Str) = "end") := by decide +kernel
/-- the attributes of a pF, in the order in which __init__ stores them -/
def pF (v0 v1 v2 v3 : V) : List (Str × V) := [("answers", v0), ("pending", v1), ("end", v2), ("words", v3)]
theorem pF_get0 {v0 v1 v2 v3 : V} : (pF v0 v1 v2 v3).lookup ("answers" : Str) = some v0 := by
  unfold pF
  rw [lookup_put, if_pos rfl]
theorem pF_put0 {v0 v1 v2 v3 z : V} : putF "answers" z (pF v0 v1 v2 v3) = pF z v1 v2 v3 := by
  unfold pF
  simp only [putF, if_true]
theorem pF_get1 {v0 v1 v2 v3 : V} : (pF v0 v1 v2 v3).lookup ("pending" : Str) = some v1 := by
  unfold pF
  rw [lookup_put, if_neg pF_n1_0, lookup_put, if_pos rfl]
theorem pF_put1 {v0 v1 v2 v3 z : V} : putF "pending" z (pF v0 v1 v2 v3) = pF v0 z v2 v3 := by
  unfold pF
  simp only [putF, if_neg pF_n0_1, if_true]
theorem pF_get2 {v0 v1 v2 v3 : V} : (pF v0 v1 v2 v3).lookup ("end" : Str) = some v2 := by
  unfold pF
  rw [lookup_put, if_neg pF_n2_0, lookup_put, if_neg pF_n2_1, lookup_put, if_pos rfl]
theorem pF_put2 {v0 v1 v2 v3 z : V} : putF "end" z (pF v0 v1 v2 v3) = pF v0 v1 z v3 := by
  unfold pF
  simp only [putF, if_neg pF_n0_2, if_neg pF_n1_2, if_true]
theorem pF_get3 {v0 v1 v2 v3 : V} : (pF v0 v1 v2 v3).lookup ("words" : Str) = some v3 := by
  unfold pF
  rw [lookup_put, if_neg pF_n3_0, lookup_put, if_neg pF_n3_1, lookup_put, if_neg pF_n3_2, lookup_put, if_pos rfl]
theorem pF_put3 {v0 v1 v2 v3 z : V} : putF "words" z (pF v0 v1 v2 v3) = pF v0 v1 v2 z := by
  unfold pF
  simp only [putF, if_neg pF_n0_3, if_neg pF_n1_3, if_neg pF_n2_3, if_true]
theorem pF_make0 {v0 : V} : putF "answers" v0 ([] : List (Str × V)) = ([("answers", v0)] : List (Str × V)) := rfl
theorem pF_make1 {v0 v1 : V} : putF "pending" v1 ([("answers", v0)] : List (Str × V)) = ([("answers", v0), ("pending", v1)] : List (Str × V)) := by
  simp only [putF, if_neg pF_n0_1, if_true]
theorem pF_make2 {v0 v1 v2 : V} : putF "end" v2 ([("answers", v0), ("pending", v1)] : List (Str × V)) = ([("answers", v0), ("pending", v1), ("end", v2)] : List (Str × V)) := by
  simp only [putF, if_neg pF_n0_2, if_neg pF_n1_2, if_true]
theorem pF_make3 {v0 v1 v2 v3 : V} : putF "words" v3 ([("answers", v0), ("pending", v1), ("end", v2)] : List (Str × V)) = ([("answers", v0), ("pending", v1), ("end", v2), ("words", v3)] : List (Str × V)) := by
  simp only [putF, if_neg pF_n0_3, if_neg pF_n1_3, if_neg pF_n2_3, if_true]
theorem pF_no {v0 v1 v2 v3 : V} {m : Str} (h0 : ¬ m = ("answers" : Str)) (h1 : ¬ m = ("pending" : Str)) (h2 : ¬ m = ("end" : Str)) (h3 : ¬ m = ("words" : Str)) : (pF v0 v1 v2 v3).lookup m = none := by
  unfold pF
  rw [lookup_put, if_neg h0, lookup_put, if_neg h1, lookup_put, if_neg h2, lookup_put, if_neg h3]
  rfl

structure PTxt (K : PySem.W.Frag) (C : Addr) : Prop where
  cl : Cls K C
  answers : NoAttr K C "answers"
  pending : NoAttr K C "pending"
  end_ : NoAttr K C "end"
  words : NoAttr K C "words"
abbrev sPI : Stmt := inClass (top 28) 0
abbrev sRet : Stmt := top 29
abbrev sCome : Stmt := top 30
def spPI (C : Addr) : Sp := fun vs H Q _ => ∃ (pl dx : Addr) (a b c d : V), vs = [.ref pl, a, b, c, d] ∧ H pl = some (.ins C dx []) ∧ Q .non (upd H pl (.ins C dx (pF a b c d)))
/-- a work run with a hand: what it returns, or nothing where it is held -/
def spRet (P : Program) (w : World) (K : PySem.W.Frag) (mg : Str → Option Value) (base : Heap) (C CH : Addr) (kw : Nat) : Sp := fun vs H Q E => ∃ (g hd : Addr) (s1 : Sp), vs = [.ref g, .ref hd] ∧ FnR P w K mg base (L2.CX P w) kw g s1 ∧ PySem.W.FnAt g base ∧
  s1 [.ref hd] H Q (fun cls d H' => ∃ b, PySem.W.exmOne K cls (.ref CH) = some b ∧ (b = true → ∃ dx h, HandAt K C H' hd dx h ∧ h.halted = true ∧ Q .non H') ∧ (b = false → E cls d H'))
section
variable {P : Program} {w : World} {K : PySem.W.Frag} {mg : Str → Option Value} {base : Heap} {C CP CH : Addr}
theorem scPI : FnScope ["self", "answers", "pending", "end", "words"] ["self", "answers", "pending", "end", "words"] (defScope sPI) := ⟨rfl, rfl, rfl, by decide +kernel, rfl, by decide +kernel, by decide +kernel⟩
theorem ok_PI {f : Addr} {fd : FuncData} (F : Fun K "__init__" "Place.__init__" sPI f fd) (T : PTxt K CP) : FnOk P w K mg base CX0 1 f fd ["self", "answers", "pending", "end", "words"] (spPI CP) := by
  refine F.ok scPI (fun vs H Q E h => ?_) (fun cdv A outer s H vs Q E hr h => ?_)
  · obtain ⟨pl, dx, a, b, c, d, rfl, _⟩ := h
    rfl
  · obtain ⟨pl, dx, a, b, c, d, rfl, ho, k⟩ := h
    refine ⟨_, pss_cons (ps_fld (pv 0) (pv 1) rfl) (pss_cons (ps_fld (pv 0) (pv 2) rfl) (pss_cons (ps_fld (pv 0) (pv 3) rfl) (pss_one (ps_fld (pv 0) (pv 4) rfl)))), ?_⟩
    refine ⟨_, rfl, _, rfl, pl, CP, dx, _, rfl, ho, T.cl, T.answers, (by show 0 < 1000; decide), ?_⟩
    rw [pF_make0]
    refine ⟨_, rfl, _, rfl, pl, CP, dx, _, rfl, upd_same, T.cl, T.pending, (by show 1 < 1000; decide), ?_⟩
    rw [pF_make1, upd_upd]
    refine ⟨_, rfl, _, rfl, pl, CP, dx, _, rfl, upd_same, T.cl, T.end_, (by show 2 < 1000; decide), ?_⟩
    rw [pF_make2, upd_upd]
    refine ⟨_, rfl, _, rfl, pl, CP, dx, _, rfl, upd_same, T.cl, T.words, (by show 3 < 1000; decide), ?_⟩
    rw [pF_make3, upd_upd]
    exact k
theorem scRet : FnScope ["work", "hand"] ["work", "hand"] (defScope sRet) := ⟨rfl, rfl, rfl, by decide +kernel, rfl, by decide +kernel, by decide +kernel⟩
theorem ok_ret {f : Addr} {fd : FuncData} {kw : Nat} (F : Fun K "returned" "returned" sRet f fd) (T : HTxt K C) (mH : mg "Held" = some (.ref CH)) : FnOk P w K mg base (L2.CX P w) (kw + 1) f fd ["work", "hand"] (spRet P w K mg base C CH kw) := by
  refine F.okX scRet (fun vs H Q E h => ?_) (fun cdv A outer s H vs Q E hr h => ?_)
  · obtain ⟨g, hd, s1, rfl, _⟩ := h
    rfl
  · obtain ⟨g, hd, s1, rfl, hF, hA, hq⟩ := h
    refine ⟨_, pss_cons (ps_try_only (c := .ref CH) (tb := fun W => tRet (tCallW P w K mg base kw 0 (WE W) (tCons (tVar 1) tNil))) (ts := fun _ _ _ => tIfS (tNot (tB (tFld K (tVar 1) "halted"))) tNever tNext) (Wout := fun cls d _ H => E cls d H) rfl rfl ⟨rfl, by decide, .inl mH⟩ (takes_of (E := E) rfl rfl rfl rfl)
        (fun W pn xe tk _ => pss_one (ps_ret (pe_callWT hr rfl (.inl rfl) rfl (.inl rfl) tk)))
        (fun a oe cls d pn hz hf => by exact pss_one (ps_if (pt_not (pt_val (pe_fld (pv 1) rfl))) (pss_one ps_never) pss_nil)))
      (pss_one (ps_ret pe_non)), ?_⟩
    refine ⟨g, spUp s1, rfl, fnR_up hF, hA, _, rfl, _, _, hq, fun v H' k => k, fun cls d H' k => ?_⟩
    obtain ⟨b, e, k1, k2⟩ := k
    refine ⟨b, e, fun hb a ha => ?_, k2⟩
    obtain ⟨dx, h, hA, e2, k3⟩ := k1 hb
    refine ⟨_, rfl, hd, C, dx, _, _, rfl, hA.ob, T.cl, T.halted, hF_get8, _, rfl, ?_⟩
    rw [e2]
    exact iteF k3
end
end TW
namespace TW
open PySem PySem.Spec PyProof.Rows L2
theorem upd_free {H : Hp} {a b : Addr} {o : HO} (h : upd H a o b = none) : b ≠ a ∧ H b = none := by
  by_cases e : b = a
  · rw [e, upd_same] at h
    cases h
  · rw [upd_ne e] at h
    exact ⟨e, h⟩
/-- a new place behind a hand's end: what it holds -/
def AfterP (CP an : Addr) (Q : VK) (h : HS) (H : Hp) : Prop := ∀ (pl dp tw : Addr) (G : Hp), H pl = none → H dp = none → pl ≠ dp → pl ≠ tw → dp ≠ tw → Same H G → G pl = some (.ins CP dp (pF (.ref an) h.pend h.fin (.ref tw))) → G tw = some (.tup h.words) → Q (.ref pl) G
/-- a work is run anew: its hand is new, its end or its wish is told in a new place -/
def spCome (P : Program) (w : World) (K : PySem.W.Frag) (mg : Str → Option Value) (base : Heap) (C CS CP CH CV : Addr) (kw n : Nat) : Sp := fun vs H Q E => ∃ (sh an : Addr) (me : Nat) (ans : List V) (S : SS) (g : Addr) (s1 : Sp), vs = [.ref sh, .int (me : Int), .ref an] ∧ ShopAt K CS H sh S ∧ SqT K H an ans ∧
  S.works[me]? = some (.ref g) ∧ FnR P w K mg base (L2.CX P w) kw g s1 ∧ PySem.W.FnAt g base ∧
  ∀ (hd dx md wl : Addr) (G : Hp), H hd = none → H dx = none → H md = none → H wl = none → Same H G → HandAt K C G hd dx (hs0 (me : Int) sh an ans md wl) →
    spUp s1 [.ref hd] G
      (fun v H2 => ∃ h, HandAt K C H2 hd dx h ∧ (h.halted = true → AfterP CP an Q h H2) ∧ (h.halted = false → ∃ b, Vn K H2 n v b ∧ ∀ H3, Same H2 H3 → (b = false → EX E CV "value" v H3) ∧
        (b = true → ∀ t, H3 t = none → AfterP CP an Q { h with fin := .ref t } (upd (upd H3 t (.tup [.str "told", v])) hd (.ins C dx { h with fin := .ref t }.fs)))))
      (fun cls d H2 => ∃ b, PySem.W.exmOne K cls (.ref CH) = some b ∧ (b = true → ∃ h, HandAt K C H2 hd dx h ∧ h.halted = true ∧ AfterP CP an Q h H2) ∧ (b = false → E cls d H2))
abbrev sComeD : Stmt := top 30
section
variable {P : Program} {w : World} {K : PySem.W.Frag} {mg : Str → Option Value} {base : Heap} {C CS CP CH CV : Addr} {n kw : Nat}
theorem scCome : FnScope ["shop", "k", "answers", "hand", "value"] ["shop", "k", "answers"] (defScope sComeD) := ⟨rfl, rfl, rfl, by decide +kernel, rfl, by decide +kernel, by decide +kernel⟩
theorem ok_come {f fI fR fV fP : Addr} {fd fdI fdR fdV fdP : FuncData} (F : Fun K "come" "come" sComeD f fd) (B : Blt mg) (T : HTxt K C) (TS : STxt K CS)
    (MH : Mk K C fI) (GI : FnOk P w K mg base CX0 1 fI fdI ["self", "shop", "me", "answers"] (spHI K C)) (mHand : mg "Hand" = some (.ref C)) (bI : Binds K fdI ["self", "shop", "me", "answers"] [])
    (R : FnOk P w K mg base (L2.CX P w) (kw + 1) fR fdR ["work", "hand"] (spRet P w K mg base C CH kw)) (mR : mg "returned" = some (.ref fR)) (kR : PySem.W.keepIn K (.ref fR) = true) (bR : Binds K fdR ["work", "hand"] [])
    (V : FnOk P w K mg base (L2.CX P w) (n + 3) fV fdV ["given"] (spCkV K CV n)) (mV : mg "check_value" = some (.ref fV)) (kV : PySem.W.keepIn K (.ref fV) = true) (bV : Binds K fdV ["given"] [])
    (MP : Mk K CP fP) (GP : FnOk P w K mg base CX0 1 fP fdP ["self", "answers", "pending", "end", "words"] (spPI CP)) (mP : mg "Place" = some (.ref CP)) (bP : Binds K fdP ["self", "answers", "pending", "end", "words"] []) :
    FnOk P w K mg base (L2.CX P w) (kw + n + 4) f fd ["shop", "k", "answers"] (spCome P w K mg base C CS CP CH CV kw n) := by
  refine F.okX scCome (fun vs H Q E h => ?_) (fun cdv A outer s H vs Q E hr h => ?_)
  · obtain ⟨sh, an, me, ans, S, g, s1, rfl, _⟩ := h
    rfl
  · obtain ⟨sh, an, me, ans, S, g, s1, rfl, hS, ha, hw, hF, hA, k⟩ := h
    have hr2 : Room 2 _ := hr.mono (by omega)
    have hrR : Room (kw + 1) _ := hr.mono (by omega)
    have hrV : Room (n + 3) _ := hr.mono (by omega)
    refine ⟨_, pss_cons (ps_set (i := 3) scCome.nd rfl (.inl rfl) (pe_make MH GI hr2 rfl mHand bI .nil pass0 (pa_cons (pv 0) (pa_cons (pv 1) (pa_cons (pv 2) pa_nil)))))
      (pss_cons (ps_set (i := 4) scCome.nd rfl (.inl rfl) (pe_callS R hrR rfl mR kR bR (fun σ => passAt (takes_of (E := E) rfl rfl rfl rfl) σ) (pa_cons (pe_ix ix_tup (pe_fld (pv 0) rfl) (pv 1) (fun _ _ => rfl)) (pa_cons (pv 3) pa_nil))))
      (pss_cons (ps_if (pt_not (pt_val (pe_fld (pv 3) rfl)))
          (pss_cons (ps_expr (pe_callS V hrV rfl mV kV bV (fun σ => passAt (takes_of (E := E) rfl rfl rfl rfl) σ) (pa_cons (pv 4) pa_nil)))
          (pss_one (ps_fld (pv 3) (pe_tup (pa_cons pe_str (pa_cons (pv 4) pa_nil))) rfl))) pss_nil)
      (pss_one (ps_ret (pe_make MP GP hr2 rfl mP bP .nil pass0 (pa_cons (pv 2) (pa_cons (pe_fld (pv 3) rfl) (pa_cons (pe_fld (pv 3) rfl) (pa_cons (pe_callTy call_tuple_of (by rfl) B.tuple (by decide +kernel) (pa_cons (pe_fld (pv 3) rfl) pa_nil)) pa_nil))))))))), ?_⟩
    refine ⟨_, rfl, _, rfl, _, rfl, fun hd dx n1 n2 ne => ?_⟩
    have sQ : Same H (upd (upd H dx (.own hd)) hd (.ins C dx [])) := (same_new n2).trans (same_new (by rw [upd_ne (Ne.symm ne)]; exact n1))
    refine ⟨hd, dx, sh, an, (me : Int), ans, rfl, upd_same, seqT_same sQ ha, fun md wl G m1 m2 old hG => ⟨rfl, ?_⟩⟩
    have sG : Same H G := fun b o e => old b o (sQ b o e) (ne_of_none e n1)
    have hS1 := hS.same sG
    obtain ⟨Q0, E0, z1, z2, z3⟩ := k hd dx md wl G n1 n2 (upd_free (upd_free m1).2).2 (upd_free (upd_free m2).2).2 sG hG
    refine ⟨_, rfl, sh, CS, S.dx, _, _, rfl, hS1.ob, TS.cl, TS.works, sF_get0, _, rfl, S.wt, _, _, _, rfl, rfl, hS1.w, atI_nat hw, _, rfl, ?_⟩
    refine ⟨g, hd, spUp s1, rfl, fnR_up hF, hA, Q0, E0, z1, fun v H2 z => ?_, fun cls d H2 z => ?_⟩
    · obtain ⟨h, hA2, k1, k2⟩ := z2 v H2 z
      refine ⟨_, rfl, hd, C, dx, _, _, rfl, hA2.ob, T.cl, T.halted, hF_get8, _, rfl, ?_⟩
      cases e : h.halted with
      | true =>
        refine iteF ?_
        refine ⟨_, rfl, _, rfl, hd, C, dx, _, _, rfl, hA2.ob, T.cl, T.pending, hF_get6, _, rfl, hd, C, dx, _, _, rfl, hA2.ob, T.cl, T.end_, hF_get7, _, rfl, hd, C, dx, _, _, rfl, hA2.ob, T.cl, T.words, hF_get5, h.wl, h.words, rfl, .inl ⟨SqL.of hA2.w, fun tw htw pl dp p1 p2 ne => ?_⟩⟩
        refine ⟨pl, dp, _, _, _, _, rfl, upd_same, rfl, ?_⟩
        rw [upd_upd]
        have f1 := upd_free p1
        have f2 := upd_free p2
        exact k1 e pl dp tw _ f1.2 f2.2 (Ne.symm ne) f1.1 f2.1 (((same_new htw).trans (same_new p2)).trans (same_new (by rw [upd_ne (Ne.symm ne)]; exact p1))) upd_same (by rw [upd_ne (Ne.symm f1.1), upd_ne (Ne.symm f2.1)]; exact upd_same)
      | false =>
        refine iteT ?_
        obtain ⟨b, hV, k3⟩ := k2 e
        refine ⟨_, rfl, v, b, rfl, hV, fun H3 s3 => ⟨fun hb => ?_, fun hb => (k3 H3 s3).1 hb⟩⟩
        refine ⟨_, rfl, two_sz, fun t ht => ?_⟩
        have hA3 : HandAt K C (upd H3 t (.tup [.str "told", v])) hd dx h := hA2.same (s3.trans (same_new ht))
        refine ⟨_, rfl, hd, C, dx, _, rfl, hA3.ob, T.cl, T.end_, few9, ?_⟩
        have hA4 := hA3.set (h' := { h with fin := .ref t }) ⟨rfl, rfl, rfl, rfl, rfl, rfl⟩
        have k4 := (k3 H3 s3).2 hb t ht
        unfold HS.fs at hA4 k4 ⊢
        rw [hF_put7]
        refine ⟨_, rfl, _, rfl, hd, C, dx, _, _, rfl, hA4.ob, T.cl, T.pending, hF_get6, _, rfl, hd, C, dx, _, _, rfl, hA4.ob, T.cl, T.end_, hF_get7, _, rfl, hd, C, dx, _, _, rfl, hA4.ob, T.cl, T.words, hF_get5, h.wl, h.words, rfl, .inl ⟨SqL.of hA4.w, fun tw htw pl dp p1 p2 ne => ?_⟩⟩
        refine ⟨pl, dp, _, _, _, _, rfl, upd_same, rfl, ?_⟩
        rw [upd_upd]
        have f1 := upd_free p1
        have f2 := upd_free p2
        exact k4 pl dp tw _ f1.2 f2.2 (Ne.symm ne) f1.1 f2.1 (((same_new htw).trans (same_new p2)).trans (same_new (by rw [upd_ne (Ne.symm ne)]; exact p1))) upd_same (by rw [upd_ne (Ne.symm f1.1), upd_ne (Ne.symm f2.1)]; exact upd_same)
    · obtain ⟨b, e, k1, k2⟩ := z3 cls d H2 z
      refine ⟨b, e, fun hb => ?_, k2⟩
      obtain ⟨h, hA2, e2, k3⟩ := k1 hb
      refine ⟨dx, h, hA2, e2, ?_⟩
      refine ⟨_, rfl, hd, C, dx, _, _, rfl, hA2.ob, T.cl, T.halted, hF_get8, _, rfl, ?_⟩
      rw [e2]
      refine iteF ?_
      refine ⟨_, rfl, _, rfl, hd, C, dx, _, _, rfl, hA2.ob, T.cl, T.pending, hF_get6, _, rfl, hd, C, dx, _, _, rfl, hA2.ob, T.cl, T.end_, hF_get7, _, rfl, hd, C, dx, _, _, rfl, hA2.ob, T.cl, T.words, hF_get5, h.wl, h.words, rfl, .inl ⟨SqL.of hA2.w, fun tw htw pl dp p1 p2 ne => ?_⟩⟩
      refine ⟨pl, dp, _, _, _, _, rfl, upd_same, rfl, ?_⟩
      rw [upd_upd]
      have f1 := upd_free p1
      have f2 := upd_free p2
      exact k3 pl dp tw _ f1.2 f2.2 (Ne.symm ne) f1.1 f2.1 (((same_new htw).trans (same_new p2)).trans (same_new (by rw [upd_ne (Ne.symm ne)]; exact p1))) upd_same (by rw [upd_ne (Ne.symm f1.1), upd_ne (Ne.symm f2.1)]; exact upd_same)
end
end TW
namespace L2
open PySem PySem.Spec PyProof.Rows
section
variable {X : Cx}
/-- t + u of any tuples -/
def rCatT2 (K : PySem.W.Frag) : R2 := fun x y H Q => ∃ a b xs ys, x = .ref a ∧ y = .ref b ∧ SqT K H a xs ∧ SqT K H b ys ∧ xs.length + ys.length ≤ sizeLine ∧
  (xs = [] → Q (.ref b) H) ∧ (xs ≠ [] → ys = [] → Q (.ref a) H) ∧ (xs ≠ [] → ys ≠ [] → ∀ p, H p = none → Q (.ref p) (upd H p (.tup (xs ++ ys))))
theorem op_catT2 : OpR X (binaryOp .Add) (rCatT2 X.K) := by
  intro pins s σ H x y v u Q I rx ry h
  obtain ⟨a, b, xs, ys, ex, ey, ha, hb, hz, q0, q1, q2⟩ := h
  by_cases hx : xs = []
  · subst ex
    subst ey
    cases rx
    cases ry
    obtain ⟨its, r1, p1, _⟩ := I.tuple ha
    obtain ⟨its2, r2, p2, _⟩ := I.tuple hb
    have e : its = [] := r1.nil_iff.mpr hx
    subst e
    obtain ⟨⟨cls, dd, data, sl⟩, ho, hc, n, hd⟩ := id p1
    obtain ⟨⟨cls2, dd2, data2, sl2⟩, ho2, hc2, n2, hd2⟩ := id p2
    simp only at hc hd hc2 hd2
    subst hc hd hc2 hd2
    exact concat_meets ⟨_, ho, rfl⟩ ⟨_, ho2, rfl⟩ noFill_tuple_add seq_tuple_add PySem.F.slot_tuple_add PySem.F.entry_tuple_add (PySem.F.args_tuple_add_2 _ _)
      (tuple_addW0 a b _ its2.toArray n n2 dd dd2 sl sl2 (by simp)) ⟨ho, ho2, ⟨.ref b, H, I, rfl, q0 hx⟩⟩
  · exact op_catT pins s σ H x y v u Q I rx ry ⟨a, b, xs, ys, ex, ey, ha, hb, hx, hz, q1 hx, q2 hx⟩
end
end L2
namespace TW
open PySem PySem.Spec PyProof.Rows L2
theorem small_sz {n : Nat} (h : n ≤ 100000) : n ≤ sizeLine := by
  have e : (100000 : Nat) ≤ sizeLine := by
    rw [sizeLine_eq]
    decide
  exact Nat.le_trans h e
abbrev dLay (K : PySem.W.Frag) : TS → Int → Str → List V → Hp → VK → Prop := fun T _ s rest H Q => ∃ x l a row, rest = x :: l ∧ valV T.rows (Sum.inr s) = some (.ref a) ∧ SqT K H a row ∧ row.length ≤ 1000 ∧ T.rows.length < sizeLine ∧
  ∀ p H', Same H H' → SqT K H' p (row ++ [x]) → Q .non (upd H' T.rd (.dK (putK T.rows (Sum.inr s) (.ref p))))
abbrev dFetch (K : PySem.W.Frag) : TS → Int → Str → List V → Hp → VK → Prop := fun T _ s rest H Q => ∃ x a row, valV T.rows (Sum.inr s) = some (.ref a) ∧ SqT K H a (x :: row) ∧ row.length ≤ 1000 ∧ T.rows.length < sizeLine ∧
  ∀ p H', Same H H' → SqT K H' p row → Q x (upd H' T.rd (.dK (putK T.rows (Sum.inr s) (.ref p))))
def spNothing : Sp := fun vs H Q _ => ∃ a b c, vs = [a, b, c] ∧ Q .non H
section
variable {P : Program} {w : World} {K : PySem.W.Frag} {mg : Str → Option Value} {base : Heap} {C : Addr}
abbrev s_do_nothing : Stmt := top 37
theorem sc_do_nothing : FnScope ["things", "k", "wish"] ["things", "k", "wish"] (defScope s_do_nothing) := ⟨rfl, rfl, rfl, by decide +kernel, rfl, by decide +kernel, by decide +kernel⟩
theorem ok_do_nothing {f : Addr} {fd : FuncData} (F : Fun K "do_nothing" "do_nothing" s_do_nothing f fd) : FnOk P w K mg base CX0 1 f fd ["things", "k", "wish"] spNothing := by
  refine F.ok sc_do_nothing (fun vs H Q E h => ?_) (fun cdv A outer s H vs Q E hr h => ?_)
  · obtain ⟨a, b, c, rfl, _⟩ := h
    rfl
  · obtain ⟨a, b, c, rfl, hq⟩ := h
    exact ⟨_, pss_one (ps_ret pe_non), hq⟩
abbrev s_do_lay : Stmt := top 45
theorem sc_do_lay : FnScope ["things", "k", "wish"] ["things", "k", "wish"] (defScope s_do_lay) := ⟨rfl, rfl, rfl, by decide +kernel, rfl, by decide +kernel, by decide +kernel⟩
theorem ok_do_lay {f : Addr} {fd : FuncData} (F : Fun K "do_lay" "do_lay" s_do_lay f fd) (X : TTxt K C) : FnOk P w K mg base CX0 1 f fd ["things", "k", "wish"] (spStep K C (dLay K)) := by
  refine F.ok sc_do_lay (fun vs H Q E h => ?_) (fun cdv A outer s H vs Q E hr h => ?_)
  · obtain ⟨th, wt, k, T, word, nm, rest, rfl, _⟩ := h
    rfl
  · obtain ⟨th, wt, k, T, word, nm, rest, rfl, hT, hW, hq⟩ := h
    have hu := hu_of hr
    obtain ⟨x, l, a, row, rfl, e, hR, le, few, hq⟩ := hq
    refine ⟨_, pss_one (ps_dput hu (pe_fld (pv 0) rfl) (pe_ix ix_tup (pv 2) pe_int (fun _ _ => rfl)) (pe_op op_catT2 (pe_dget hu (pe_fld (pv 0) rfl) (pe_ix ix_tup (pv 2) pe_int (fun _ _ => rfl)) (fun _ _ => rfl)) (pe_tup (pa_cons (pe_ix ix_tup (pv 2) pe_int (fun _ _ => rfl)) pa_nil))) rfl), ?_⟩
    refine ⟨_, rfl, th, C, T.dx, _, _, rfl, hT.ob, X.cl, X.rows, tF_get2, _, rfl, wt, _, _, _, rfl, rfl, hW, atI_nat (j := 1) rfl, T.rd, _, rfl, e ▸ DGet.k (k := Sum.inr nm) hT.r, ?_⟩
    refine ⟨_, rfl, wt, _, _, _, rfl, rfl, hW, atI_nat (j := 2) rfl, small_sz (n := 1) (by decide), fun t ht => ?_⟩
    have s1 := same_new (o := HO.tup [x]) ht
    have go : ∀ p H', Same H H' → SqT K H' p (row ++ [x]) → H' th = some (.ins C T.dx (tF (.ref T.cd) (.ref T.hd) (.ref T.rd) (.ref T.sd))) ∧ SqT K H' wt (.str word :: .str nm :: x :: l) ∧ DPut H' T.rd (.str nm) (.ref p) (upd H' T.rd (.dK (putK T.rows (Sum.inr nm) (.ref p)))) := fun p H' sm q => ⟨sm _ _ hT.ob, seqT_same sm hW, DPut.k (k := Sum.inr nm) (sm _ _ hT.r) few⟩
    refine ⟨a, t, row, [x], rfl, rfl, seqT_same s1 hR, SqT.of upd_same, small_sz (by show row.length + 1 ≤ 100000; omega), fun z => ?_, fun _ y => (nomatch y), fun z y p hp => ?_⟩
    · subst z
      have q : SqT K (upd H t (.tup [x])) t ([] ++ [x]) := SqT.of upd_same
      obtain ⟨g1, g2, g3⟩ := go t _ s1 q
      exact ⟨_, rfl, th, C, T.dx, _, _, rfl, g1, X.cl, X.rows, tF_get2, _, rfl, wt, _, _, _, rfl, rfl, g2, atI_nat (j := 1) rfl, T.rd, _, rfl, g3, hq _ _ s1 q⟩
    · have s2 := s1.trans (same_new (o := HO.tup (row ++ [x])) hp)
      have q : SqT K (upd (upd H t (.tup [x])) p (.tup (row ++ [x]))) p (row ++ [x]) := SqT.of upd_same
      obtain ⟨g1, g2, g3⟩ := go p _ s2 q
      exact ⟨_, rfl, th, C, T.dx, _, _, rfl, g1, X.cl, X.rows, tF_get2, _, rfl, wt, _, _, _, rfl, rfl, g2, atI_nat (j := 1) rfl, T.rd, _, rfl, g3, hq _ _ s2 q⟩
abbrev s_do_fetch : Stmt := top 46
theorem sc_do_fetch : FnScope ["things", "k", "wish", "row"] ["things", "k", "wish"] (defScope s_do_fetch) := ⟨rfl, rfl, rfl, by decide +kernel, rfl, by decide +kernel, by decide +kernel⟩
theorem ok_do_fetch {f : Addr} {fd : FuncData} (F : Fun K "do_fetch" "do_fetch" s_do_fetch f fd) (X : TTxt K C) : FnOk P w K mg base CX0 1 f fd ["things", "k", "wish"] (spStep K C (dFetch K)) := by
  refine F.ok sc_do_fetch (fun vs H Q E h => ?_) (fun cdv A outer s H vs Q E hr h => ?_)
  · obtain ⟨th, wt, k, T, word, nm, rest, rfl, _⟩ := h
    rfl
  · obtain ⟨th, wt, k, T, word, nm, rest, rfl, hT, hW, hq⟩ := h
    have hu := hu_of hr
    obtain ⟨x, a, row, e, hR, le, few, hq⟩ := hq
    refine ⟨_, pss_cons (ps_set (i := 3) sc_do_fetch.nd rfl (.inl rfl) (pe_dget hu (pe_fld (pv 0) rfl) (pe_ix ix_tup (pv 2) pe_int (fun _ _ => rfl)) (fun _ _ => rfl)))
      (pss_cons (ps_dput hu (pe_fld (pv 0) rfl) (pe_ix ix_tup (pv 2) pe_int (fun _ _ => rfl)) (pe_slice sl_tup (pv 3) (po_some pe_int) po_none) rfl)
      (pss_one (ps_ret (pe_ix ix_tup (pv 3) pe_int (fun _ _ => rfl))))), ?_⟩
    refine ⟨_, rfl, th, C, T.dx, _, _, rfl, hT.ob, X.cl, X.rows, tF_get2, _, rfl, wt, _, _, _, rfl, rfl, hW, atI_nat (j := 1) rfl, T.rd, _, rfl, e ▸ DGet.k (k := Sum.inr nm) hT.r, ?_⟩
    have e0 : HT.sIx (x :: row).length 0 (some 1) = 1 := by
      show min 1 (row.length + 1) = 1
      omega
    have e1 : cutV (x :: row) (some 1) none = row := by
      unfold cutV
      rw [e0]
      show (List.take (row.length + 1 - 1) row) = row
      exact List.take_of_length_le (by omega)
    refine ⟨_, rfl, _, rfl, a, x :: row, rfl, hR, (fun z => by rw [e0] at z; exact absurd z.1 (by decide)), fun p hp => ?_⟩
    rw [e1]
    have sm := same_new (o := HO.tup row) hp
    have q : SqT K (upd H p (.tup row)) p row := SqT.of upd_same
    refine ⟨_, rfl, th, C, T.dx, _, _, rfl, sm _ _ hT.ob, X.cl, X.rows, tF_get2, _, rfl, wt, _, _, _, rfl, rfl, seqT_same sm hW, atI_nat (j := 1) rfl, T.rd, _, rfl, DPut.k (k := Sum.inr nm) (sm _ _ hT.r) few, ?_⟩
    have hR2 : SqT K (upd (upd H p (.tup row)) T.rd (.dK (putK T.rows (Sum.inr nm) (.ref p)))) a (x :: row) := by
      have z := seqT_same sm hR
      rcases z with (z | ⟨o, z⟩) | z
      · exact .inl (.inl (by rw [upd_ne (ne_of z (sm _ _ hT.r) (by intro y; cases y))]; exact z))
      · exact .inl (.inr ⟨o, by rw [upd_ne (ne_of z (sm _ _ hT.r) (by intro y; cases y))]; exact z⟩)
      · exact .inr z
    exact ⟨_, rfl, a, _, _, _, rfl, rfl, hR2, atI_nat (j := 0) rfl, hq p _ sm q⟩
abbrev s_do_step : Stmt := top 48
/-- a step, by its word -/
def spDoStep (K : PySem.W.Frag) (w : World) (pS : Addr) (S : Addr → Option Sp) : Sp := fun vs H Q _ => ∃ (th k : V) (wt f : Addr) (word : Str) (rest : List V) (sp : Sp), vs = [th, k, .ref wt] ∧ SqT K H wt (.str word :: rest) ∧ KDct K w pS word (.ref f) ∧ S f = some sp ∧ sp vs H Q (fun _ _ _ => False)
theorem sc_do_step : FnScope ["things", "k", "wish", "action"] ["things", "k", "wish"] (defScope s_do_step) := ⟨rfl, rfl, rfl, by decide +kernel, rfl, by decide +kernel, by decide +kernel⟩
theorem ok_do_step {f pS : Addr} {fd : FuncData} {k : Nat} {S : Addr → Option Sp} (F : Fun K "do_step" "do_step" s_do_step f fd) (mS : mg "STEPS" = some (.ref pS)) (A : ∀ f sp, S f = some sp → Held P w K mg base k f sp) : FnOk P w K mg base CX0 (k + 1) f fd ["things", "k", "wish"] (spDoStep K w pS S) := by
  refine F.ok sc_do_step (fun vs H Q E h => ?_) (fun cdv A' outer s H vs Q E hr h => ?_)
  · obtain ⟨th, k, wt, f, word, rest, sp, rfl, _⟩ := h
    rfl
  · obtain ⟨th, k, wt, f, word, rest, sp, rfl, hW, hK, hS, hq⟩ := h
    refine ⟨_, pss_cons (ps_set (i := 3) sc_do_step.nd rfl (.inl rfl) (pe_ix ix_kdict (pe_glob (v := .ref pS) rfl mS rfl) (pe_ix ix_tup (pv 2) pe_int (fun _ _ => rfl)) (fun _ _ => rfl)))
      (pss_one (ps_ret (pe_callA (i := 3) A hr rfl (.inl rfl) (pa_cons (pv 0) (pa_cons (pv 1) (pa_cons (pv 2) pa_nil)))))), ?_⟩
    exact ⟨_, rfl, wt, _, _, _, rfl, rfl, hW, atI_nat (j := 0) rfl, pS, word, .ref f, rfl, rfl, hK, f, sp, rfl, hS, _, rfl, _, rfl, _, rfl, hq⟩
end
end TW
namespace TW
open PySem PySem.Spec PyProof.Rows L2
abbrev sTI : Stmt := inClass (top 32) 0
abbrev sAgain : Stmt := top 34
abbrev sRoom : Stmt := top 35
abbrev sNeed : Stmt := top 36
def spTI (C : Addr) : Sp := fun vs H Q _ => ∃ (th dx : Addr) (a b c d : V), vs = [.ref th, a, b, c, d] ∧ H th = some (.ins C dx []) ∧ Q .non (upd H th (.ins C dx (tF a b c d)))
/-- new things as the old ones are -/
def spAgain (K : PySem.W.Frag) (C : Addr) : Sp := fun vs H Q _ => ∃ (th : Addr) (T : TS), vs = [.ref th] ∧ ThingsAt K C H th T ∧ ∀ (t2 dx cd hd rd : Addr) (G : Hp), H t2 = none → H dx = none → H cd = none → H hd = none → H rd = none → Same H G → ThingsAt K C G t2 { T with dx := dx, cd := cd, hd := hd, rd := rd } → Q (.ref t2) G
/-- whether a belt has room -/
def Roomy (K : PySem.W.Frag) (H : Hp) (T : TS) (s : Str) (b : Bool) : Prop := ∃ sz a row, valV T.sizes (Sum.inr s) = some sz ∧ valV T.rows (Sum.inr s) = some (.ref a) ∧ SqT K H a row ∧ ((sz = .non ∧ b = true) ∨ ∃ n : Int, sz = .int n ∧ b = decide ((row.length : Int) < n))
def spRoom (K : PySem.W.Frag) (C : Addr) : Sp := fun vs H Q _ => ∃ (th : Addr) (T : TS) (s : Str) (b : Bool), vs = [.ref th, .str s] ∧ ThingsAt K C H th T ∧ Roomy K H T s b ∧ Q (.bl b) H
/-- whether two values are the same, by a relation of the heap -/
def spSm (R : Hp → V → V → Bool → Prop) : Sp := fun vs H Q _ => ∃ (x y : V) (b : Bool), vs = [x, y] ∧ R H x y b ∧ ∀ H', Same H H' → Q (.bl b) H'
def Needs (K : PySem.W.Frag) (R : Hp → V → V → Bool → Prop) (H : Hp) (T : TS) (word : Str) (rest : List V) (b : Bool) : Prop :=
  (word = "until" → ∃ s x l v, rest = .str s :: x :: l ∧ valV T.cells (Sum.inr s) = some v ∧ R H v x b) ∧
  (word = "take" → ∃ s l v, rest = .str s :: l ∧ valV T.holders (Sum.inr s) = some v ∧ b = decide (v = .non)) ∧
  (word = "lay" → ∃ s l, rest = .str s :: l ∧ Roomy K H T s b) ∧
  (word = "fetch" → ∃ s l a row, rest = .str s :: l ∧ valV T.rows (Sum.inr s) = some (.ref a) ∧ SqT K H a row ∧ b = decide (0 < row.length)) ∧
  (word ≠ "until" → word ≠ "take" → word ≠ "lay" → word ≠ "fetch" → b = true)
def spNeed (K : PySem.W.Frag) (C : Addr) (R : Hp → V → V → Bool → Prop) : Sp := fun vs H Q _ => ∃ (th wt : Addr) (T : TS) (word : Str) (rest : List V) (b : Bool), vs = [.ref th, .ref wt] ∧ ThingsAt K C H th T ∧ SqT K H wt (.str word :: rest) ∧ Needs K R H T word rest b ∧ ∀ H', Same H H' → Q (.bl b) H'
section
variable {P : Program} {w : World} {K : PySem.W.Frag} {mg : Str → Option Value} {base : Heap} {C : Addr}
theorem scTI : FnScope ["self", "cells", "holders", "rows", "sizes"] ["self", "cells", "holders", "rows", "sizes"] (defScope sTI) := ⟨rfl, rfl, rfl, by decide +kernel, rfl, by decide +kernel, by decide +kernel⟩
theorem ok_TI {f : Addr} {fd : FuncData} (F : Fun K "__init__" "Things.__init__" sTI f fd) (T : TTxt K C) : FnOk P w K mg base CX0 1 f fd ["self", "cells", "holders", "rows", "sizes"] (spTI C) := by
  refine F.ok scTI (fun vs H Q E h => ?_) (fun cdv A outer s H vs Q E hr h => ?_)
  · obtain ⟨pl, dx, a, b, c, d, rfl, _⟩ := h
    rfl
  · obtain ⟨pl, dx, a, b, c, d, rfl, ho, k⟩ := h
    refine ⟨_, pss_cons (ps_fld (pv 0) (pv 1) rfl) (pss_cons (ps_fld (pv 0) (pv 2) rfl) (pss_cons (ps_fld (pv 0) (pv 3) rfl) (pss_one (ps_fld (pv 0) (pv 4) rfl)))), ?_⟩
    refine ⟨_, rfl, _, rfl, pl, C, dx, _, rfl, ho, T.cl, T.cells, (by show 0 < 1000; decide), ?_⟩
    rw [tF_make0]
    refine ⟨_, rfl, _, rfl, pl, C, dx, _, rfl, upd_same, T.cl, T.holders, (by show 1 < 1000; decide), ?_⟩
    rw [tF_make1, upd_upd]
    refine ⟨_, rfl, _, rfl, pl, C, dx, _, rfl, upd_same, T.cl, T.rows, (by show 2 < 1000; decide), ?_⟩
    rw [tF_make2, upd_upd]
    refine ⟨_, rfl, _, rfl, pl, C, dx, _, rfl, upd_same, T.cl, T.sizes, (by show 3 < 1000; decide), ?_⟩
    rw [tF_make3, upd_upd]
    exact k
theorem scAgain : FnScope ["things"] ["things"] (defScope sAgain) := ⟨rfl, rfl, rfl, by decide +kernel, rfl, by decide +kernel, by decide +kernel⟩
theorem ok_again {f fI : Addr} {fd fdI : FuncData} (F : Fun K "things_again" "things_again" sAgain f fd) (B : Blt mg) (X : TTxt K C) (M : Mk K C fI) (G : FnOk P w K mg base CX0 1 fI fdI ["self", "cells", "holders", "rows", "sizes"] (spTI C)) (mT : mg "Things" = some (.ref C)) (bI : Binds K fdI ["self", "cells", "holders", "rows", "sizes"] []) :
    FnOk P w K mg base CX0 3 f fd ["things"] (spAgain K C) := by
  refine F.ok scAgain (fun vs H Q E h => ?_) (fun cdv A outer s H vs Q E hr h => ?_)
  · obtain ⟨th, T, rfl, _⟩ := h
    rfl
  · obtain ⟨th, T, rfl, hT, k⟩ := h
    have hr2 : Room 2 _ := hr.mono (by omega)
    refine ⟨_, pss_one (ps_ret (pe_make M G hr2 rfl mT bI .nil pass0 (pa_cons (pe_callTy call_dictD (by rfl) B.dict (by decide +kernel) (pa_cons (pe_fld (pv 0) rfl) pa_nil)) (pa_cons (pe_callTy call_dictD (by rfl) B.dict (by decide +kernel) (pa_cons (pe_fld (pv 0) rfl) pa_nil))
      (pa_cons (pe_callTy call_dictD (by rfl) B.dict (by decide +kernel) (pa_cons (pe_fld (pv 0) rfl) pa_nil)) (pa_cons (pe_fld (pv 0) rfl) pa_nil)))))), ?_⟩
    refine ⟨_, rfl, th, C, T.dx, _, _, rfl, hT.ob, X.cl, X.cells, tF_get0, T.cd, T.cells, rfl, .inl hT.c, fun cd n1 => ?_⟩
    have s1 := same_new (o := HO.dK T.cells) n1
    refine ⟨_, rfl, th, C, T.dx, _, _, rfl, s1 _ _ hT.ob, X.cl, X.holders, tF_get1, T.hd, T.holders, rfl, .inl (s1 _ _ hT.h), fun hd n2 => ?_⟩
    have s2 := s1.trans (same_new (o := HO.dK T.holders) n2)
    refine ⟨_, rfl, th, C, T.dx, _, _, rfl, s2 _ _ hT.ob, X.cl, X.rows, tF_get2, T.rd, T.rows, rfl, .inl (s2 _ _ hT.r), fun rd n3 => ?_⟩
    have s3 := s2.trans (same_new (o := HO.dK T.rows) n3)
    refine ⟨_, rfl, th, C, T.dx, _, _, rfl, s3 _ _ hT.ob, X.cl, X.sizes, tF_get3, fun t2 dx n4 n5 ne => ?_⟩
    refine ⟨t2, dx, _, _, _, _, rfl, upd_same, rfl, ?_⟩
    rw [upd_upd]
    have f5 : upd (upd (upd (upd H cd (.dK T.cells)) hd (.dK T.holders)) rd (.dK T.rows)) dx (.own t2) t2 = none := by
      rw [upd_ne (Ne.symm ne)]
      exact n4
    have s5 : ∀ o, Same (upd (upd (upd H cd (.dK T.cells)) hd (.dK T.holders)) rd (.dK T.rows)) (upd (upd (upd (upd (upd H cd (.dK T.cells)) hd (.dK T.holders)) rd (.dK T.rows)) dx (.own t2)) t2 o) := fun o => (same_new n5).trans (same_new f5)
    have e3 := upd_free n4
    have e2 := upd_free e3.2
    have e1 := upd_free e2.2
    have d3 := upd_free n5
    have d2 := upd_free d3.2
    have d1 := upd_free d2.2
    have c2 := upd_free n3
    have c1 := upd_free c2.2
    have b1 := upd_free n2
    refine k t2 dx cd hd rd _ e1.2 d1.2 n1 b1.2 c1.2 (s3.trans (s5 _)) ⟨upd_same, s5 _ _ _ ?_, s5 _ _ _ ?_, s5 _ _ _ upd_same, (s3.trans (s5 _)) _ _ hT.s⟩
    · show upd (upd (upd H cd (.dK T.cells)) hd (.dK T.holders)) rd (.dK T.rows) cd = some (.dK T.cells)
      rw [upd_ne (Ne.symm c1.1), upd_ne (Ne.symm b1.1)]
      exact upd_same
    · show upd (upd (upd H cd (.dK T.cells)) hd (.dK T.holders)) rd (.dK T.rows) hd = some (.dK T.holders)
      rw [upd_ne (Ne.symm c2.1)]
      exact upd_same
theorem scRoom : FnScope ["things", "belt", "size"] ["things", "belt"] (defScope sRoom) := ⟨rfl, rfl, rfl, by decide +kernel, rfl, by decide +kernel, by decide +kernel⟩
theorem ok_room {f : Addr} {fd : FuncData} (F : Fun K "has_room" "has_room" sRoom f fd) (B : Blt mg) (X : TTxt K C) : FnOk P w K mg base CX0 1 f fd ["things", "belt"] (spRoom K C) := by
  refine F.ok scRoom (fun vs H Q E h => ?_) (fun cdv A outer s H vs Q E hr h => ?_)
  · obtain ⟨th, T, s, b, rfl, _⟩ := h
    rfl
  · obtain ⟨th, T, nm, b, rfl, hT, ⟨sz, a, row, e1, e2, hR, hk⟩, hq⟩ := h
    have hu := hu_of hr
    refine ⟨_, pss_cons (ps_set (i := 2) scRoom.nd rfl (.inl rfl) (pe_dget hu (pe_fld (pv 0) rfl) (pv 1) (fun _ _ => rfl)))
      (pss_one (ps_ret (pe_or (pe_cmpR op_isN (pv 2) pe_non (nomark _)) (pe_one (pe_cmpR op_lt (pe_callB call_len_seq (by rfl) B.len PySem.boot_len (pa_cons (pe_dget hu (pe_fld (pv 0) rfl) (pv 1) (fun _ _ => rfl)) pa_nil)) (pv 2) (nomark _)))))), ?_⟩
    refine ⟨_, rfl, th, C, T.dx, _, _, rfl, hT.ob, X.cl, X.sizes, tF_get3, _, rfl, T.sd, sz, rfl, e1 ▸ DGet.k (k := Sum.inr nm) hT.s, _, rfl, rfl, _, rfl, ?_⟩
    rcases hk with ⟨rfl, rfl⟩ | ⟨n, rfl, rfl⟩
    · exact iteT hq
    · refine iteF ?_
      exact ⟨_, rfl, th, C, T.dx, _, _, rfl, hT.ob, X.cl, X.rows, tF_get2, _, rfl, T.rd, _, rfl, e2 ▸ DGet.k (k := Sum.inr nm) hT.r, a, _, rfl, .inr hR, _, rfl, _, _, rfl, rfl, hq⟩
end
end TW
namespace TW
open PySem PySem.Spec PyProof.Rows L2
section
variable {P : Program} {w : World} {K : PySem.W.Frag} {mg : Str → Option Value} {base : Heap} {C : Addr} {n : Nat}
theorem scNeed : FnScope ["things", "wish", "word"] ["things", "wish"] (defScope sNeed) := ⟨rfl, rfl, rfl, by decide +kernel, rfl, by decide +kernel, by decide +kernel⟩
theorem ok_need {f fS fR : Addr} {fd fdS fdR : FuncData} {R : Hp → V → V → Bool → Prop} (F : Fun K "need_not_wait" "need_not_wait" sNeed f fd) (B : Blt mg) (X : TTxt K C)
    (S : FnOk P w K mg base CX0 (n + 1) fS fdS ["one", "other"] (spSm R)) (mS : mg "same" = some (.ref fS)) (kS : PySem.W.keepIn K (.ref fS) = true) (bS : Binds K fdS ["one", "other"] [])
    (G : FnOk P w K mg base CX0 1 fR fdR ["things", "belt"] (spRoom K C)) (mG : mg "has_room" = some (.ref fR)) (kG : PySem.W.keepIn K (.ref fR) = true) (bG : Binds K fdR ["things", "belt"] []) :
    FnOk P w K mg base CX0 (n + 2) f fd ["things", "wish"] (spNeed K C R) := by
  refine F.ok scNeed (fun vs H Q E h => ?_) (fun cdv A outer s H vs Q E hr h => ?_)
  · obtain ⟨th, wt, T, word, rest, b, rfl, _⟩ := h
    rfl
  · obtain ⟨th, wt, T, word, rest, b, rfl, hT, hW, ⟨k1, k2, k3, k4, k5⟩, hq⟩ := h
    have hu := hu_of hr
    have hrS : Room (n + 1) _ := hr.mono (by omega)
    have hr1 : Room 1 _ := hr.mono (by omega)
    refine ⟨_, pss_cons (ps_set (i := 2) scNeed.nd rfl (.inl rfl) (pe_ix ix_tup (pv 1) pe_int (fun _ _ => rfl)))
      (pss_cons (ps_if (pt_cmpR op_eq (pv 2) pe_str (nomark _)) (pss_one (ps_ret (pe_call S hrS rfl mS kS bS .nil pass0 (pa_cons (pe_dget hu (pe_fld (pv 0) rfl) (pe_ix ix_tup (pv 1) pe_int (fun _ _ => rfl)) (fun _ _ => rfl)) (pa_cons (pe_ix ix_tup (pv 1) pe_int (fun _ _ => rfl)) pa_nil))))) pss_nil)
      (pss_cons (ps_if (pt_cmpR op_eq (pv 2) pe_str (nomark _)) (pss_one (ps_ret (pe_cmpR op_isN (pe_dget hu (pe_fld (pv 0) rfl) (pe_ix ix_tup (pv 1) pe_int (fun _ _ => rfl)) (fun _ _ => rfl)) pe_non (nomark _)))) pss_nil)
      (pss_cons (ps_if (pt_cmpR op_eq (pv 2) pe_str (nomark _)) (pss_one (ps_ret (pe_call G hr1 rfl mG kG bG .nil pass0 (pa_cons (pv 0) (pa_cons (pe_ix ix_tup (pv 1) pe_int (fun _ _ => rfl)) pa_nil))))) pss_nil)
      (pss_cons (ps_if (pt_cmpR op_eq (pv 2) pe_str (nomark _)) (pss_one (ps_ret (pe_cmpR op_gt (pe_callB call_len_seq (by rfl) B.len PySem.boot_len (pa_cons (pe_dget hu (pe_fld (pv 0) rfl) (pe_ix ix_tup (pv 1) pe_int (fun _ _ => rfl)) (fun _ _ => rfl)) pa_nil)) pe_int (nomark _)))) pss_nil)
      (pss_one (ps_ret pe_bl)))))), ?_⟩
    refine ⟨_, rfl, wt, _, _, _, rfl, rfl, hW, atI_nat (j := 0) rfl, _, rfl, rfl, _, rfl, ?_⟩
    by_cases c1 : word = "until"
    · rw [decide_eq_true (by rw [c1])]
      refine iteT ?_
      obtain ⟨nm, x, l, v, rfl, e, hR⟩ := k1 c1
      exact ⟨_, rfl, th, C, T.dx, _, _, rfl, hT.ob, X.cl, X.cells, tF_get0, _, rfl, wt, _, _, _, rfl, rfl, hW, atI_nat (j := 1) rfl, T.cd, v, rfl, e ▸ DGet.k (k := Sum.inr nm) hT.c, _, rfl, wt, _, _, _, rfl, rfl, hW, atI_nat (j := 2) rfl, v, x, b, rfl, hR, hq⟩
    rw [decide_eq_false (fun z => c1 (V.str.inj z))]
    refine iteF ?_
    refine ⟨_, rfl, rfl, _, rfl, ?_⟩
    by_cases c2 : word = "take"
    · rw [decide_eq_true (by rw [c2])]
      refine iteT ?_
      obtain ⟨nm, l, v, rfl, e, rfl⟩ := k2 c2
      exact ⟨_, rfl, th, C, T.dx, _, _, rfl, hT.ob, X.cl, X.holders, tF_get1, _, rfl, wt, _, _, _, rfl, rfl, hW, atI_nat (j := 1) rfl, T.hd, v, rfl, e ▸ DGet.k (k := Sum.inr nm) hT.h, rfl, hq _ (Same.refl _)⟩
    rw [decide_eq_false (fun z => c2 (V.str.inj z))]
    refine iteF ?_
    refine ⟨_, rfl, rfl, _, rfl, ?_⟩
    by_cases c3 : word = "lay"
    · rw [decide_eq_true (by rw [c3])]
      refine iteT ?_
      obtain ⟨nm, l, rfl, hR⟩ := k3 c3
      exact ⟨_, rfl, _, rfl, wt, _, _, _, rfl, rfl, hW, atI_nat (j := 1) rfl, th, T, nm, b, rfl, hT, hR, hq _ (Same.refl _)⟩
    rw [decide_eq_false (fun z => c3 (V.str.inj z))]
    refine iteF ?_
    refine ⟨_, rfl, rfl, _, rfl, ?_⟩
    by_cases c4 : word = "fetch"
    · rw [decide_eq_true (by rw [c4])]
      refine iteT ?_
      obtain ⟨nm, l, a, row, rfl, e, hR, rfl⟩ := k4 c4
      refine ⟨_, rfl, th, C, T.dx, _, _, rfl, hT.ob, X.cl, X.rows, tF_get2, _, rfl, wt, _, _, _, rfl, rfl, hW, atI_nat (j := 1) rfl, T.rd, _, rfl, e ▸ DGet.k (k := Sum.inr nm) hT.r, a, _, rfl, .inr hR, _, _, rfl, rfl, ?_⟩
      have z := hq _ (Same.refl _)
      have e0 : decide ((0 : Int) < (row.length : Int)) = decide (0 < row.length) := by
        by_cases c : 0 < row.length
        · rw [decide_eq_true c, decide_eq_true (by omega)]
        · rw [decide_eq_false c, decide_eq_false (by omega)]
      rw [← e0] at z
      exact z
    rw [decide_eq_false (fun z => c4 (V.str.inj z))]
    refine iteF ?_
    have e := k5 c1 c2 c3 c4
    subst e
    exact hq _ (Same.refl _)
abbrev s_do_trade : Stmt := top 41
abbrev dTrade (R : Hp → V → V → Bool → Prop) : TS → Int → Str → List V → Hp → VK → Prop := fun T _ s rest H Q => ∃ x y l v b, rest = x :: y :: l ∧ valV T.cells (Sum.inr s) = some v ∧ T.cells.length < sizeLine ∧ R H v x b ∧ ∀ H', Same H H' → (b = false → Q (.bl false) H') ∧ (b = true → Q (.bl true) (upd H' T.cd (.dK (putK T.cells (Sum.inr s) y))))
theorem sc_do_trade : FnScope ["things", "k", "wish"] ["things", "k", "wish"] (defScope s_do_trade) := ⟨rfl, rfl, rfl, by decide +kernel, rfl, by decide +kernel, by decide +kernel⟩
theorem ok_do_trade {f fS : Addr} {fd fdS : FuncData} {R : Hp → V → V → Bool → Prop} (F : Fun K "do_trade" "do_trade" s_do_trade f fd) (X : TTxt K C)
    (S : FnOk P w K mg base CX0 (n + 1) fS fdS ["one", "other"] (spSm R)) (mS : mg "same" = some (.ref fS)) (kS : PySem.W.keepIn K (.ref fS) = true) (bS : Binds K fdS ["one", "other"] []) : FnOk P w K mg base CX0 (n + 2) f fd ["things", "k", "wish"] (spStep K C (dTrade R)) := by
  refine F.ok sc_do_trade (fun vs H Q E h => ?_) (fun cdv A outer s H vs Q E hr h => ?_)
  · obtain ⟨th, wt, k, T, word, nm, rest, rfl, _⟩ := h
    rfl
  · obtain ⟨th, wt, k, T, word, nm, rest, rfl, hT, hW, hq⟩ := h
    have hu := hu_of hr
    have hrS : Room (n + 1) _ := hr.mono (by omega)
    obtain ⟨x, y, l, v, b, rfl, e, few, hR, hq⟩ := hq
    refine ⟨_, pss_cons (ps_if (pt_not (pt_val (pe_call S hrS rfl mS kS bS .nil pass0 (pa_cons (pe_dget hu (pe_fld (pv 0) rfl) (pe_ix ix_tup (pv 2) pe_int (fun _ _ => rfl)) (fun _ _ => rfl)) (pa_cons (pe_ix ix_tup (pv 2) pe_int (fun _ _ => rfl)) pa_nil))))) (pss_one (ps_ret pe_bl)) pss_nil)
      (pss_cons (ps_dput hu (pe_fld (pv 0) rfl) (pe_ix ix_tup (pv 2) pe_int (fun _ _ => rfl)) (pe_ix ix_tup (pv 2) pe_int (fun _ _ => rfl)) rfl) (pss_one (ps_ret pe_bl))), ?_⟩
    refine ⟨_, rfl, th, C, T.dx, _, _, rfl, hT.ob, X.cl, X.cells, tF_get0, _, rfl, wt, _, _, _, rfl, rfl, hW, atI_nat (j := 1) rfl, T.cd, v, rfl, e ▸ DGet.k (k := Sum.inr nm) hT.c, _, rfl, wt, _, _, _, rfl, rfl, hW, atI_nat (j := 2) rfl, v, x, b, rfl, hR, fun H' sm => ⟨_, rfl, ?_⟩⟩
    cases b with
    | false => exact iteT ((hq H' sm).1 rfl)
    | true =>
      refine iteF ?_
      exact ⟨_, rfl, wt, _, _, _, rfl, rfl, seqT_same sm hW, atI_nat (j := 3) rfl, _, rfl, th, C, T.dx, _, _, rfl, sm _ _ hT.ob, X.cl, X.cells, tF_get0, _, rfl, wt, _, _, _, rfl, rfl, seqT_same sm hW, atI_nat (j := 1) rfl, T.cd, _, rfl, DPut.k (k := Sum.inr nm) (sm _ _ hT.c) few, (hq H' sm).2 rfl⟩
end
end TW
namespace L2
open PySem PySem.Spec PyProof.Rows
/-- a dict comprehension over a dict's keys -/
theorem dc_keys {d D : Addr} {o : Obj} {kvs : List (Key × V)} {g : TG} {tt : TT} {tk tv : TE} {vs : List Nat} {σ : St} {H1 : Hp} {Qd : Hp → Prop} (Pv : Nat → Hp → Prop) (h0 : Pv 0 (upd H1 D (.dK []))) (hl : ∀ i H, i ≤ kvs.length → Pv i H → H d = some (.frz o (.dK kvs)))
    (hs : ∀ i k v H, kvs[i]? = some (k, v) → Pv i H → g (kV k) (wipe σ vs) H fun σ2 H2 => wipe σ2 vs = wipe σ vs ∧ tt σ2 H2 fun b H3 =>
      if b = true then tk σ2 H3 fun y H4 => tv σ2 H4 fun z H5 => ∃ kvs k, y = kV k ∧ H5 D = some (.dK kvs) ∧ kvs.length < sizeLine ∧ Pv (i + 1) (upd H5 D (.dK (putK kvs k z))) else Pv (i + 1) H3) (hd : ∀ H, Pv kvs.length H → Qd H) :
    ∃ W : Nat → Nat → Hp → Prop, (∃ m, W 0 m (upd H1 D (.dK []))) ∧ ∀ i m H, W i m H →
      ((Itk d o kvs).stop i H ∧ Qd H) ∨ ((Itk d o kvs).go i H ∧ ∃ Nx : Hp → Prop, (∀ H', Nx H' → ∃ m', m' < m ∧ W (i + 1) m' H') ∧ ∀ x H', (Itk d o kvs).yld i H x H' → g x (wipe σ vs) H' fun σ2 H2 => wipe σ2 vs = wipe σ vs ∧ tt σ2 H2 fun b H3 =>
        if b = true then tk σ2 H3 fun y H4 => tv σ2 H4 fun z H5 => ∃ kvs k, y = kV k ∧ H5 D = some (.dK kvs) ∧ kvs.length < sizeLine ∧ Nx (upd H5 D (.dK (putK kvs k z))) else Nx H3) := by
  refine ⟨fun i m H => m = kvs.length - i ∧ i ≤ kvs.length ∧ Pv i H, ⟨kvs.length, by simp, Nat.zero_le _, h0⟩, ?_⟩
  rintro i m H ⟨rfl, hi, p⟩
  have q := hl i H hi p
  by_cases hlt : i < kvs.length
  · refine .inr ⟨⟨q, hlt⟩, Pv (i + 1), fun H' p' => ⟨kvs.length - (i + 1), by omega, rfl, hlt, p'⟩, fun x H' y => ?_⟩
    obtain ⟨e, k, v, e2, rfl⟩ := y
    subst e
    exact hs i k v _ e2 p
  · have e : i = kvs.length := by omega
    subst e
    exact .inl ⟨⟨q, Nat.le_refl _⟩, hd H p⟩
section
variable {X : Cx}
/-- x = {k: v for ..} on one line, x a local name -/
theorem ps_setDc {i : Nat} {y : Str} {py : Pos} {kx vx tg iter : Expr} {ifs : List Expr} {scope : Scope} {own : List (Str × Nat)} {pos spos : Pos} {wi : TI} {g : TG} {tt : TT} {tk tv : TE} (hc : X.calm = true) (hN : X.N.Nodup) (hy : X.N[i]? = some y) (hyl : X.env.scope.names.lookup y = some .local)
    (hsw : swapsWith (.DictComp kx vx [⟨tg, iter, ifs, 0⟩] scope pos) (some (.Name y py)) spos.line X.env = pure true) (hi : PI X tg iter wi) (ok : BlkOk X.N X.env.scope scope own)
    (hg : ∀ (s : Shared) (H : Hp) (C : Addr) (cl : List (Str × Addr)) (fp : List Addr), PG (X.blk s H scope (compEnvC scope cl C X.env) fp) tg g) (ht : ∀ (s : Shared) (H : Hp) (C : Addr) (cl : List (Str × Addr)) (fp : List Addr), PTs (X.blk s H scope (compEnvC scope cl C X.env) fp) ifs tt)
    (hk : ∀ (s : Shared) (H : Hp) (C : Addr) (cl : List (Str × Addr)) (fp : List Addr), PE (X.blk s H scope (compEnvC scope cl C X.env) fp) kx tk)
    (he : ∀ (s : Shared) (H : Hp) (C : Addr) (cl : List (Str × Addr)) (fp : List Addr), PE (X.blk s H scope (compEnvC scope cl C X.env) fp) vx tv) (hs : ∀ x, foldedSetIterable iter X.env x = pure x := by intro _; rfl) :
    PS X (.Assign [.Name y py] (.DictComp kx vx [⟨tg, iter, ifs, 0⟩] scope pos) spos) (tAsg (tDc wi g tt tk tv (own.map (·.2))) (gName i)) := by
  refine ⟨fun pins s σ H D I h => ?_⟩
  rw [exec_Assign_Name_used _ _ _ _ hsw]
  refine wpAny_bind (wpAny_standAt (wpAny_bind ?_))
  show wpAny _ X.A (do let _ ← comprehension (.DictComp kx vx [⟨tg, iter, ifs, 0⟩] scope pos) scope X.env (firstIterPos [⟨tg, iter, ifs, 0⟩] pos) newDict false (eval iter X.env) (some (assign (.Name y py) X.env))) _ _ s
  have h : tDc wi g tt tk tv (own.map (·.2)) σ H (fun x H1 => gName i x σ H1 D.nx) := h
  refine wpAny_bind (thn (dc_core (Qf := fun _ s' => SP X pins D .next s') hc hN I hi ok hg ht hk he hs h fun L C s' m H' I' q hn f => ?_) fun _ s' hq => wpAny_pure (wpAny_pure hq))
  show wpAny _ _ (assign (.Name y py) X.env (.ref L)) _ _ _
  refine wpAny_assign_Name (store_ok2 (v := V.ref L) I' hN hy (.inl hyl) rfl (fun s2 I2 ⟨a, sb, ha⟩ => ?_) (.inr hyl))
  obtain ⟨f0, f1, f2, f3, f4, f5⟩ := f
  have other : C ≠ a := by
    rcases ha with z | z
    · exact z ▸ f1
    · exact fun e => f4 y a z e.symm
  exact ⟨m, hn.sameBut sb other, fun h3 sb3 => ⟨_, H', I2.turned (t' := s2.toks) (fun b o hb e => (sb3.2 b hb).trans e) f0 f1 f3 f4 f5, q⟩⟩
theorem sw_dc {kx vx : Expr} {gs : List Comprehension} {scope : Scope} {pos py : Pos} {y : Str} {l : Nat} {env : Env} (hk : env.scope.kind = .function) (hy : env.scope.names.lookup y = some .local) (hl : (py.line == pos.line) = true)
    (ha : (scope.names.any fun (n, k) => n == y && (k == .local || k == .cell)) = false) : swapsWith (.DictComp kx vx gs scope pos) (some (.Name y py)) l env = pure true := by
  have ky : env.kindOf y = some .local := hy
  have hb : env.blockKind = .function := by
    unfold Env.blockKind
    rw [hk]
    rfl
  unfold swapsWith
  simp only [hb, ky, ha, Expr.pos, hl]
  rfl
end
end L2
namespace TW
open PySem PySem.Spec PyProof.Rows L2
abbrev sFirst : Stmt := top 33
/-- the things of a shop, new -/
def spFirst (K : PySem.W.Frag) (CS C : Addr) : Sp := fun vs H Q _ => ∃ (sh : Addr) (S : SS), vs = [.ref sh] ∧ ShopAt K CS H sh S ∧ S.locks.Nodup ∧ S.beltN.Nodup ∧ S.locks.length ≤ 1000 ∧ S.belts.length ≤ 1000 ∧
  ∀ (t2 dx cd hd rd : Addr) (rows : List (Key × V)) (G : Hp), H t2 = none → H cd = none → H hd = none → H rd = none → Same H G →
    ThingsAt K C G t2 ⟨dx, cd, S.cells, hd, S.locks.map (fun s => (Sum.inr s, V.non)), rd, rows, S.bd, S.belts⟩ → rows.map (·.1) = S.beltN.map Sum.inr → (∀ p ∈ rows, ∃ a, p.2 = .ref a ∧ SqT K G a []) → Q (.ref t2) G
theorem valV_none {l : List (Key × V)} {k : Key} (h : k ∉ l.map (·.1)) : valV l k = none := by
  induction l with
  | nil => rfl
  | cons p r ih =>
    rw [List.map_cons, List.mem_cons, not_or] at h
    rw [valV_neg (fun z => h.1 z.symm)]
    exact ih h.2
/-- the keys of the first i names, one more -/
theorem fresh_key {l : List Str} {i : Nat} {s : Str} (hn : l.Nodup) (e : l[i]? = some s) : (Sum.inr s : Key) ∉ (l.take i).map Sum.inr := by
  intro z
  obtain ⟨t, m, q⟩ := List.mem_map.mp z
  have q : t = s := Sum.inr.inj q
  subst q
  obtain ⟨j, hj, e2⟩ := List.mem_iff_getElem.mp m
  rw [List.length_take] at hj
  rw [List.getElem_take] at e2
  obtain ⟨hi, e3⟩ := List.getElem?_eq_some_iff.mp e
  have hlt : j < i := Nat.lt_of_lt_of_le hj (Nat.min_le_left _ _)
  exact List.pairwise_iff_getElem.mp hn j i (Nat.lt_trans hlt hi) hi hlt (e2.trans e3.symm)
theorem take_one {α : Type} {l : List α} {i : Nat} {s : α} (e : l[i]? = some s) : l.take (i + 1) = l.take i ++ [s] := by
  rw [List.take_add_one, e]
  rfl
section
variable {P : Program} {w : World} {K : PySem.W.Frag} {mg : Str → Option Value} {base : Heap} {C CS : Addr}
theorem scFirst : FnScope ["shop", "holders", "rows", "lock", "belt"] ["shop"] (defScope sFirst) := ⟨rfl, rfl, rfl, by decide +kernel, rfl, by decide +kernel, by decide +kernel⟩
theorem ok_first {f fI : Addr} {fd fdI : FuncData} (F : Fun K "first_things" "first_things" sFirst f fd) (B : Blt mg) (X : TTxt K C) (XS : STxt K CS) (M : Mk K C fI) (G : FnOk P w K mg base CX0 1 fI fdI ["self", "cells", "holders", "rows", "sizes"] (spTI C)) (mT : mg "Things" = some (.ref C)) (bI : Binds K fdI ["self", "cells", "holders", "rows", "sizes"] []) :
    FnOk P w K mg base CX0 3 f fd ["shop"] (spFirst K CS C) := by
  refine F.ok scFirst (fun vs H Q E h => ?_) (fun cdv A outer s H vs Q E hr h => ?_)
  · obtain ⟨sh, S, rfl, _⟩ := h
    rfl
  · obtain ⟨sh, S, rfl, hS, n1, n2, l1, l2, k⟩ := h
    have hr2 : Room 2 _ := hr.mono (by omega)
    refine ⟨_, pss_cons (ps_setDc (i := 1) (own := [("lock", 3)]) rfl scFirst.nd rfl rfl (sw_dc rfl rfl (by decide) (by decide)) (pi_tup (pe_fld (pv 0) rfl)) (blkOk_by (N := ["shop", "holders", "rows", "lock", "belt"]) (sc := defScope sFirst) (by decide +kernel))
        (fun _ _ _ _ _ => pg_name (i := 3) scFirst.nd rfl (Or.inl rfl)) (fun _ _ _ _ _ => pts_nil) (fun _ _ _ _ _ => pv 3) (fun _ _ _ _ _ => pe_non))
      (pss_cons (ps_lock (ps_setDc (i := 2) (own := [("belt", 4)]) rfl scFirst.nd rfl rfl (sw_dc rfl rfl (by decide) (by decide)) (pi_keys (pe_fld (pv 0) rfl)) (blkOk_by (N := ["shop", "holders", "rows", "lock", "belt"]) (sc := defScope sFirst) (by decide +kernel))
        (fun _ _ _ _ _ => pg_name (i := 4) scFirst.nd rfl (Or.inl rfl)) (fun _ _ _ _ _ => pts_nil) (fun _ _ _ _ _ => pv 4) (fun _ _ _ _ _ => pe_tup pa_nil)))
      (pss_one (ps_ret (pe_make M G hr2 rfl mT bI .nil pass0 (pa_cons (pe_callTy call_dictD (by rfl) B.dict (by decide +kernel) (pa_cons (pe_fld (pv 0) rfl) pa_nil)) (pa_cons (pv 1) (pa_cons (pv 2) (pa_cons (pe_fld (pv 0) rfl) pa_nil)))))))), ?_⟩
    refine ⟨_, rfl, sh, CS, S.dx, _, _, rfl, hS.ob, XS.cl, XS.locks, sF_get2, S.lt, rfl, ⟨_, hS.l⟩, fun hd h1 => ?_⟩
    refine dc_tup (K := K) (a := S.lt) (xs := S.locks.map V.str) (fun i H' => Same H H' ∧ H' hd = some (.dK ((S.locks.take i).map fun s => (Sum.inr s, V.non)))) ⟨same_new h1, upd_same⟩ (fun i H' _ p => seqT_same p.1 hS.l) (fun i x H' e p => ?_) (fun H1 p => ?_)
    · rw [List.getElem?_map] at e
      cases q : S.locks[i]? with
      | none =>
        rw [q] at e
        cases e
      | some nm =>
        rw [q] at e
        obtain rfl := (Option.some.inj e).symm
        refine ⟨rfl, ?_⟩
        unfold tYes
        dsimp only
        refine iteT ?_
        refine ⟨_, rfl, _, Sum.inr nm, rfl, p.2, ?_, fun b o z => ?_, ?_⟩
        · rw [List.length_map, List.length_take]
          exact Nat.lt_of_lt_of_le (Nat.lt_succ_of_le (Nat.le_trans (Nat.min_le_right _ _) l1)) (small_sz (by decide))
        · rw [upd_ne (ne_of_none z h1)]
          exact p.1 b o z
        · rw [upd_same, putK_new _ (valV_none (by rw [List.map_map]; exact fresh_key n1 q)), take_one q, List.map_append]
          rfl
    · have e1 : H1 hd = some (.dK (S.locks.map fun s => (Sum.inr s, V.non))) := by
        have z := p.2
        rw [List.length_map, List.take_length] at z
        exact z
      have q1 := p.1
      have hS1 := hS.same q1
      refine ⟨S.bd, _, hS1.b, trivial, fun od => ?_⟩
      have ob2 : upd H1 S.bd (.frz od (.dK S.belts)) sh = _ := (upd_ne (ne_of hS1.ob hS1.b (by intro z; cases z))).trans hS1.ob
      refine ⟨_, rfl, sh, CS, S.dx, _, _, rfl, ob2, XS.cl, XS.belts, sF_get3, S.bd, od, rfl, .inl ⟨S.belts, upd_same, fun rd h2 => ?_⟩⟩
      have f2 := upd_free h2
      refine dc_keys (fun i H' => (∀ b o, H1 b = some o → b ≠ S.bd → H' b = some o) ∧ H' S.bd = some (.frz od (.dK S.belts)) ∧ ∃ rows : List (Key × V), H' rd = some (.dK rows) ∧ rows.map (·.1) = (S.beltN.take i).map Sum.inr ∧ ∀ p ∈ rows, ∃ a, p.2 = .ref a ∧ H' a = some (.tup []))
        ⟨fun b o z ne => by rw [upd_ne (ne_of_none z f2.2), upd_ne ne]; exact z, by rw [upd_ne (Ne.symm f2.1)]; exact upd_same, [], upd_same, rfl, fun p hp => (nomatch hp)⟩ (fun i H' _ p => p.2.1) (fun i ky v H' e p => ?_) (fun H3 p => ?_)
      · obtain ⟨old, pb, rows, pr, pk, pv'⟩ := p
        have kx : (S.belts.map (·.1))[i]? = some ky := by
          rw [List.getElem?_map, e]
          rfl
        rw [hS.bn, List.getElem?_map] at kx
        cases q : S.beltN[i]? with
        | none =>
          rw [q] at kx
          cases kx
        | some nm =>
          rw [q] at kx
          obtain rfl := (Option.some.inj kx).symm
          refine ⟨rfl, ?_⟩
          unfold tYes
          dsimp only
          refine iteT ?_
          refine ⟨_, rfl, small_sz (n := 0) (by decide), fun t ht => ?_⟩
          have tr : rd ≠ t := ne_of_none pr ht
          have lr : rows.length = min i S.beltN.length := by
            have z := congrArg List.length pk
            rw [List.length_map, List.length_map, List.length_take] at z
            exact z
          have lb : S.belts.length = S.beltN.length := by
            have z := congrArg List.length hS.bn
            rw [List.length_map, List.length_map] at z
            exact z
          have en : putK rows (Sum.inr nm) (V.ref t) = rows ++ [(Sum.inr nm, V.ref t)] := putK_new _ (valV_none (by rw [pk]; exact fresh_key n2 q))
          refine ⟨rows, Sum.inr nm, rfl, by rw [upd_ne tr]; exact pr, ?_, fun b o z ne => ?_, ?_, _, upd_same, ?_, fun z hz => ?_⟩
          · rw [lr]
            exact Nat.lt_of_lt_of_le (Nat.lt_succ_of_le (Nat.le_trans (Nat.min_le_right _ _) (lb ▸ l2))) (small_sz (by decide))
          · rw [upd_ne (ne_of_none z f2.2), upd_ne (ne_of_none (old b o z ne) ht)]
            exact old b o z ne
          · rw [upd_ne (Ne.symm f2.1), upd_ne (ne_of_none pb ht)]
            exact pb
          · rw [en, List.map_append, pk, take_one q, List.map_append]
            rfl
          · rw [en] at hz
            rcases List.mem_append.mp hz with m | m
            · obtain ⟨a, e3, e4⟩ := pv' z m
              refine ⟨a, e3, ?_⟩
              rw [upd_ne (ne_of e4 pr (by intro y; cases y)), upd_ne (ne_of_none e4 ht)]
              exact e4
            · obtain rfl := List.mem_singleton.mp m
              refine ⟨t, rfl, ?_⟩
              rw [upd_ne (Ne.symm tr)]
              exact upd_same
      · obtain ⟨old, pb, rows, pr, pk, pv'⟩ := p
        refine ⟨pb, ?_⟩
        have lb : S.belts.length = S.beltN.length := by
          have z := congrArg List.length hS.bn
          rw [List.length_map, List.length_map] at z
          exact z
        rw [lb, List.take_length] at pk
        have s14 : Same H1 (upd H3 S.bd (.dK S.belts)) := fun b o z => by
          by_cases c : b = S.bd
          · subst c
            rw [hS1.b] at z
            rw [upd_same]
            exact z
          · rw [upd_ne c]
            exact old b o z c
        have r4 : upd H3 S.bd (.dK S.belts) rd = some (.dK rows) := by
          rw [upd_ne f2.1]
          exact pr
        have v4 : ∀ p ∈ rows, ∃ a, p.2 = V.ref a ∧ upd H3 S.bd (.dK S.belts) a = some (.tup []) := fun p hp => by
          obtain ⟨a, e3, e4⟩ := pv' p hp
          refine ⟨a, e3, ?_⟩
          rw [upd_ne (ne_of e4 pb (by intro y; cases y))]
          exact e4
        generalize w4 : upd H3 S.bd (.dK S.belts) = H4 at s14 r4 v4 ⊢
        have s4 := q1.trans s14
        have hS4 := hS.same s4
        refine ⟨_, rfl, sh, CS, S.dx, _, _, rfl, hS4.ob, XS.cl, XS.cells, sF_get1, S.cd, S.cells, rfl, .inl hS4.c, fun cd n3 => ?_⟩
        have s5 := same_new (o := HO.dK S.cells) n3
        refine ⟨_, rfl, _, rfl, _, rfl, sh, CS, S.dx, _, _, rfl, s5 _ _ hS4.ob, XS.cl, XS.belts, sF_get3, fun t2 dx n4 n5 ne => ?_⟩
        refine ⟨t2, dx, _, _, _, _, rfl, upd_same, rfl, ?_⟩
        rw [upd_upd]
        have s6 : ∀ o, Same (upd H4 cd (.dK S.cells)) (upd (upd (upd H4 cd (.dK S.cells)) dx (.own t2)) t2 o) := fun o => (same_new n5).trans (same_new (by rw [upd_ne (Ne.symm ne)]; exact n4))
        have g4 := upd_free n4
        refine k t2 dx cd hd rd rows _ (s4.free g4.2) (s4.free n3) h1 (q1.free f2.2) ((s4.trans s5).trans (s6 _)) ⟨upd_same, s6 _ _ _ upd_same, (s5.trans (s6 _)) _ _ (s14 _ _ e1), (s5.trans (s6 _)) _ _ r4, (s5.trans (s6 _)) _ _ hS4.b⟩ pk fun p hp => ?_
        obtain ⟨a, e3, e4⟩ := v4 p hp
        exact ⟨a, e3, SqT.of ((s5.trans (s6 _)) _ _ e4)⟩
end
end TW
namespace TW
open PySem PySem.Spec PyProof.Rows L2
theorem rF_n0_1 : ¬ (("shop" : Str) = "things") := by decide +kernel
theorem rF_n0_2 : ¬ (("shop" : Str) = "places") := by decide +kernel
theorem rF_n0_3 : ¬ (("shop" : Str) = "done") := by decide +kernel
theorem rF_n1_0 : ¬ (("things" : Str) = "shop") := by decide +kernel
theorem rF_n1_2 : ¬ (("things" : Str) = "places") := by decide +kernel
theorem rF_n1_3 : ¬ (("things" : Str) = "done") := by decide +kernel
theorem rF_n2_0 : ¬ (("places" : Str) = "shop") := by decide +kernel
theorem rF_n2_1 : ¬ (("places" : Str) = "things") := by decide +kernel
theorem rF_n2_3 : ¬ (("places" : Str) = "done") := by decide +kernel
theorem rF_n3_0 : ¬ (("done" : Str) = "shop") := by decide +kernel
theorem rF_n3_1 : ¬ (("done" : Str) = "things") := by decide +kernel
theorem rF_n3_2 : ¬ (("done" : Str) = "places") := by decide +kernel
/-- the attributes of a rF, in the order in which __init__ stores them -/
def rF (v0 v1 v2 v3 : V) : List (Str × V) := [("shop", v0), ("things", v1), ("places", v2), ("done", v3)]
theorem rF_get0 {v0 v1 v2 v3 : V} : (rF v0 v1 v2 v3).lookup ("shop" : Str) = some v0 := by
  unfold rF
  rw [lookup_put, if_pos rfl]
theorem rF_put0 {v0 v1 v2 v3 z : V} : putF "shop" z (rF v0 v1 v2 v3) = rF z v1 v2 v3 := by
  unfold rF
  simp only [putF, if_true]
theorem rF_get1 {v0 v1 v2 v3 : V} : (rF v0 v1 v2 v3).lookup ("things" : Str) = some v1 := by
  unfold rF
  rw [lookup_put, if_neg rF_n1_0, lookup_put, if_pos rfl]
theorem rF_put1 {v0 v1 v2 v3 z : V} : putF "things" z (rF v0 v1 v2 v3) = rF v0 z v2 v3 := by
  unfold rF
  simp only [putF, if_neg rF_n0_1, if_true]
theorem rF_get2 {v0 v1 v2 v3 : V} : (rF v0 v1 v2 v3).lookup ("places" : Str) = some v2 := by
  unfold rF
  rw [lookup_put, if_neg rF_n2_0, lookup_put, if_neg rF_n2_1, lookup_put, if_pos rfl]
theorem rF_put2 {v0 v1 v2 v3 z : V} : putF "places" z (rF v0 v1 v2 v3) = rF v0 v1 z v3 := by
  unfold rF
  simp only [putF, if_neg rF_n0_2, if_neg rF_n1_2, if_true]
theorem rF_get3 {v0 v1 v2 v3 : V} : (rF v0 v1 v2 v3).lookup ("done" : Str) = some v3 := by
  unfold rF
  rw [lookup_put, if_neg rF_n3_0, lookup_put, if_neg rF_n3_1, lookup_put, if_neg rF_n3_2, lookup_put, if_pos rfl]
theorem rF_put3 {v0 v1 v2 v3 z : V} : putF "done" z (rF v0 v1 v2 v3) = rF v0 v1 v2 z := by
  unfold rF
  simp only [putF, if_neg rF_n0_3, if_neg rF_n1_3, if_neg rF_n2_3, if_true]
theorem rF_make0 {v0 : V} : putF "shop" v0 ([] : List (Str × V)) = ([("shop", v0)] : List (Str × V)) := rfl
theorem rF_make1 {v0 v1 : V} : putF "things" v1 ([("shop", v0)] : List (Str × V)) = ([("shop", v0), ("things", v1)] : List (Str × V)) := by
  simp only [putF, if_neg rF_n0_1, if_true]
theorem rF_make2 {v0 v1 v2 : V} : putF "places" v2 ([("shop", v0), ("things", v1)] : List (Str × V)) = ([("shop", v0), ("things", v1), ("places", v2)] : List (Str × V)) := by
  simp only [putF, if_neg rF_n0_2, if_neg rF_n1_2, if_true]
theorem rF_make3 {v0 v1 v2 v3 : V} : putF "done" v3 ([("shop", v0), ("things", v1), ("places", v2)] : List (Str × V)) = ([("shop", v0), ("things", v1), ("places", v2), ("done", v3)] : List (Str × V)) := by
  simp only [putF, if_neg rF_n0_3, if_neg rF_n1_3, if_neg rF_n2_3, if_true]
theorem rF_no {v0 v1 v2 v3 : V} {m : Str} (h0 : ¬ m = ("shop" : Str)) (h1 : ¬ m = ("things" : Str)) (h2 : ¬ m = ("places" : Str)) (h3 : ¬ m = ("done" : Str)) : (rF v0 v1 v2 v3).lookup m = none := by
  unfold rF
  rw [lookup_put, if_neg h0, lookup_put, if_neg h1, lookup_put, if_neg h2, lookup_put, if_neg h3]
  rfl

structure RTxt (K : PySem.W.Frag) (C : Addr) : Prop where
  cl : Cls K C
  shop : NoAttr K C "shop"
  things : NoAttr K C "things"
  places : NoAttr K C "places"
  done : NoAttr K C "done"
/-- a place as it stands -/
structure PS where
  p : Addr
  dp : Addr
  an : Addr
  ans : List V
  pend : V
  fin : V
  tw : Addr
  words : List V
structure PlaceAt (K : PySem.W.Frag) (CP : Addr) (H : Hp) (x : PS) : Prop where
  ob : H x.p = some (.ins CP x.dp (pF (.ref x.an) x.pend x.fin (.ref x.tw)))
  a : SqT K H x.an x.ans
  w : SqT K H x.tw x.words
/-- a run -/
structure RS where
  dx : Addr
  sh : Addr
  th : Addr
  pl : Addr
  dn : Addr
  T : TS
  places : List PS
  done : List V
structure RunAt (K : PySem.W.Frag) (CR CT CP : Addr) (H : Hp) (r : Addr) (R : RS) : Prop where
  ob : H r = some (.ins CR R.dx (rF (.ref R.sh) (.ref R.th) (.ref R.pl) (.ref R.dn)))
  t : ThingsAt K CT H R.th R.T
  p : H R.pl = some (.lst (R.places.map fun x => V.ref x.p))
  e : ∀ x ∈ R.places, PlaceAt K CP H x
  d : H R.dn = some (.lst R.done)
/-- whether something is an integer -/
def Whl (K : PySem.W.Frag) (H : Hp) (x : V) (b : Bool) : Prop := ∃ T i j, TyX K H x (.type T) ∧ kitB T "int" = some i ∧ (i = true → kitB T "bool" = some j) ∧ b = (i && !j)
def spWhole (K : PySem.W.Frag) : Sp := fun vs H Q _ => ∃ x b, vs = [x] ∧ Whl K H x b ∧ Q (.bl b) H
/-- the number of a work, or none -/
def spPlace (K : PySem.W.Frag) (CR CT CP CW : Addr) : Sp := fun vs H Q E => ∃ (r : Addr) (R : RS) (x : V) (b : Bool), vs = [.ref r, x] ∧ RunAt K CR CT CP H r R ∧ Whl K H x b ∧ (b = false → EX E CW "number" x H) ∧
  (b = true → ∃ k : Int, x = .int k ∧ (∀ (n : Nat) y, k = (n : Int) → R.places[n]? = some y → Q (.ref y.p) H) ∧ (¬ (0 ≤ k ∧ k < (R.places.length : Int)) → EX E CW "number" x H))
section
variable {P : Program} {w : World} {K : PySem.W.Frag} {mg : Str → Option Value} {base : Heap} {CR CT CP CW : Addr} {H H' : Hp}
theorem ThingsAt.same {C th : Addr} {T : TS} (e : Same H H') (A : ThingsAt K C H th T) : ThingsAt K C H' th T := ⟨e _ _ A.ob, e _ _ A.c, e _ _ A.h, e _ _ A.r, e _ _ A.s⟩
theorem PlaceAt.same {x : PS} (e : Same H H') (A : PlaceAt K CP H x) : PlaceAt K CP H' x := ⟨e _ _ A.ob, seqT_same e A.a, seqT_same e A.w⟩
theorem RunAt.same {r : Addr} {R : RS} (e : Same H H') (A : RunAt K CR CT CP H r R) : RunAt K CR CT CP H' r R := ⟨e _ _ A.ob, A.t.same e, e _ _ A.p, fun x hx => (A.e x hx).same e, e _ _ A.d⟩
abbrev sWhole : Stmt := top 15
theorem scWhole : FnScope ["given"] ["given"] (defScope sWhole) := ⟨rfl, rfl, rfl, by decide +kernel, rfl, by decide +kernel, by decide +kernel⟩
theorem ok_whole {f : Addr} {fd : FuncData} (F : Fun K "is_whole" "is_whole" sWhole f fd) (B : Blt mg) : FnOk P w K mg base CX0 1 f fd ["given"] (spWhole K) := by
  refine F.ok scWhole (fun vs H Q E h => ?_) (fun cdv A outer s H vs Q E hr h => ?_)
  · obtain ⟨x, b, rfl, _⟩ := h
    rfl
  · obtain ⟨x, b, rfl, ⟨T, i, j, ty, e1, e2, rfl⟩, hq⟩ := h
    refine ⟨_, pss_one (ps_ret (pe_and (pe_callB call_isi (by rfl) B.isi (by decide +kernel) (pa_cons (pv 0) (pa_cons (pe_bltn (v := .ty "int") (by rfl) B.int (by decide +kernel) rfl) pa_nil)))
      (pe_one (pe_not (pe_callB call_isi (by rfl) B.isi (by decide +kernel) (pa_cons (pv 0) (pa_cons (pe_bltn (v := .ty "bool") (by rfl) B.bool (by decide +kernel) rfl) pa_nil))))))), ?_⟩
    refine ⟨_, rfl, _, _, _, _, _, rfl, .ty _, ty, kit_ty e1, _, rfl, ?_⟩
    cases i with
    | false => exact iteF hq
    | true =>
      refine iteT ?_
      exact ⟨_, rfl, _, _, _, _, _, rfl, .ty _, ty, kit_ty (e2 rfl), _, rfl, hq⟩
abbrev sPlace : Stmt := top 50
theorem scPlace : FnScope ["run", "k"] ["run", "k"] (defScope sPlace) := ⟨rfl, rfl, rfl, by decide +kernel, rfl, by decide +kernel, by decide +kernel⟩
theorem ok_place {f fW : Addr} {fd fdW : FuncData} (F : Fun K "place_of" "place_of" sPlace f fd) (B : Blt mg) (X : RTxt K CR) (G : FnOk P w K mg base CX0 1 fW fdW ["given"] (spWhole K)) (mG : mg "is_whole" = some (.ref fW)) (kG : PySem.W.keepIn K (.ref fW) = true) (bG : Binds K fdW ["given"] [])
    (Z : Err1 P w K mg base "NoWork" "number" CW) : FnOk P w K mg base (L2.CX P w) 3 f fd ["run", "k"] (spPlace K CR CT CP CW) := by
  obtain ⟨fI, fdI, z, g⟩ := Z.ex
  refine F.okX scPlace (fun vs H Q E h => ?_) (fun cdv A outer s H vs Q E hr h => ?_)
  · obtain ⟨r, R, x, b, rfl, _⟩ := h
    rfl
  · obtain ⟨r, R, x, b, rfl, hR, hW, k1, k2⟩ := h
    have hr1 : Room 1 _ := hr.mono (by omega)
    have hr2 : Room 2 _ := hr.mono (by omega)
    refine ⟨_, pss_cons (ps_if (PW.pt (pw_or (pt_not (pt_val (pe_call G hr1 rfl mG kG bG .nil pass0 (pa_cons (pv 1) pa_nil)))) (pw_or1 (pt_not (pt_chain op_le op_lt pe_int (pv 1) (pe_callB call_len_seq (by rfl) B.len PySem.boot_len (pa_cons (pe_fld (pv 0) rfl) pa_nil)))))))
        (pss_one (ps_raise rfl (takes_of (E := E) rfl rfl rfl rfl) (pmk_err z g hr2 Z.m (pa_cons (pv 1) pa_nil)))) pss_nil)
      (pss_one (ps_ret (pe_ix ix_list (pe_fld (pv 0) rfl) (pv 1) (fun _ _ => rfl)))), ?_⟩
    refine ⟨_, rfl, x, b, rfl, hW, b, rfl, ?_⟩
    cases b with
    | false => exact iteT (iteT ⟨_, rfl, _, rfl, k1 rfl⟩)
    | true =>
      obtain ⟨k, rfl, q1, q2⟩ := k2 rfl
      refine iteF ?_
      refine ⟨_, rfl, _, _, rfl, rfl, _, rfl, ?_⟩
      by_cases c1 : 0 ≤ k
      · rw [decide_eq_true c1]
        refine iteT ?_
        refine ⟨_, rfl, r, CR, R.dx, _, _, rfl, hR.ob, X.cl, X.places, rF_get2, R.pl, _, rfl, .inl (SqL.of hR.p), _, _, rfl, rfl, _, rfl, ?_⟩
        rw [List.length_map]
        by_cases c2 : k < (R.places.length : Int)
        · rw [decide_eq_true c2]
          refine iteF ?_
          obtain ⟨n, rfl⟩ := Int.eq_ofNat_of_zero_le c1
          have hn : n < R.places.length := by omega
          exact ⟨_, rfl, r, CR, R.dx, _, _, rfl, hR.ob, X.cl, X.places, rF_get2, _, rfl, R.pl, _, _, _, rfl, rfl, SqL.of hR.p, atI_nat (j := n) (by rw [List.getElem?_map, List.getElem?_eq_getElem hn]; rfl), q1 n _ rfl (List.getElem?_eq_getElem hn)⟩
        · rw [decide_eq_false c2]
          exact iteT ⟨_, rfl, _, rfl, q2 (fun z => c2 z.2)⟩
      · rw [decide_eq_false c1]
        exact ⟨_, rfl, iteT ⟨_, rfl, _, rfl, q2 (fun z => c1 z.1)⟩⟩
end
end TW
namespace TW
open PySem PySem.Spec PyProof.Rows L2
abbrev sCanGo : Stmt := top 51
/-- whether a work that stands so can go -/
def CanGo (K : PySem.W.Frag) (Rel : Hp → V → V → Bool → Prop) (H : Hp) (T : TS) (pend : V) (b : Bool) : Prop := (pend = .non ∧ b = false) ∨ ∃ wt word rest, pend = .ref wt ∧ SqT K H wt (.str word :: rest) ∧ Needs K Rel H T word rest b
def spCanGo (K : PySem.W.Frag) (CR CT CP : Addr) (Rel : Hp → V → V → Bool → Prop) : Sp := fun vs H Q _ => ∃ (r : Addr) (R : RS) (y : PS) (b : Bool), vs = [.ref r, .ref y.p] ∧ RunAt K CR CT CP H r R ∧ PlaceAt K CP H y ∧ CanGo K Rel H R.T y.pend b ∧ ∀ H', Same H H' → Q (.bl b) H'
/-- what a table holds for a name -/
def spCellOf (K : PySem.W.Frag) (CR CT CP CN : Addr) (tab : TS → List (Key × V)) : Sp := fun vs H Q E => ∃ (r : Addr) (R : RS) (y : V) (l : List Str) (b : Bool), vs = [.ref r, y] ∧ RunAt K CR CT CP H r R ∧ (tab R.T).map (·.1) = l.map Sum.inr ∧ Among K H l y b ∧ (b = false → EX E CN "name" y H) ∧
  (b = true → ∃ nm v, y = .str nm ∧ valV (tab R.T) (Sum.inr nm) = some v ∧ Q v H)
def spOfPlace (K : PySem.W.Frag) (CR CT CP CW : Addr) (f : PS → V) : Sp := fun vs H Q E => ∃ (r : Addr) (R : RS) (x : V) (b : Bool), vs = [.ref r, x] ∧ RunAt K CR CT CP H r R ∧ Whl K H x b ∧ (b = false → EX E CW "number" x H) ∧
  (b = true → ∃ k : Int, x = .int k ∧ (∀ (n : Nat) y, k = (n : Int) → R.places[n]? = some y → Q (f y) H) ∧ (¬ (0 ≤ k ∧ k < (R.places.length : Int)) → EX E CW "number" x H))
section
variable {P : Program} {w : World} {K : PySem.W.Frag} {mg : Str → Option Value} {base : Heap} {CR CT CP CW : Addr} {n : Nat}
theorem scCanGo : FnScope ["run", "place"] ["run", "place"] (defScope sCanGo) := ⟨rfl, rfl, rfl, by decide +kernel, rfl, by decide +kernel, by decide +kernel⟩
theorem ok_canGo {f fN : Addr} {fd fdN : FuncData} {Rel : Hp → V → V → Bool → Prop} (F : Fun K "can_go" "can_go" sCanGo f fd) (X : RTxt K CR) (XP : PTxt K CP) (G : FnOk P w K mg base CX0 (n + 2) fN fdN ["things", "wish"] (spNeed K CT Rel)) (mN : mg "need_not_wait" = some (.ref fN)) (kN : PySem.W.keepIn K (.ref fN) = true) (bN : Binds K fdN ["things", "wish"] []) :
    FnOk P w K mg base CX0 (n + 3) f fd ["run", "place"] (spCanGo K CR CT CP Rel) := by
  refine F.ok scCanGo (fun vs H Q E h => ?_) (fun cdv A outer s H vs Q E hr h => ?_)
  · obtain ⟨r, R, y, b, rfl, _⟩ := h
    rfl
  · obtain ⟨r, R, y, b, rfl, hR, hP, hC, hq⟩ := h
    refine ⟨_, pss_one (ps_ret (pe_and (pe_cmpR op_notN (pe_fld (pv 1) rfl) pe_non (nomark _)) (pe_one (pe_call G hr rfl mN kN bN .nil pass0 (pa_cons (pe_fld (pv 0) rfl) (pa_cons (pe_fld (pv 1) rfl) pa_nil)))))), ?_⟩
    rcases hC with ⟨e, rfl⟩ | ⟨wt, word, rest, e, hW, hN⟩
    · refine ⟨_, rfl, y.p, CP, y.dp, _, _, rfl, hP.ob, XP.cl, XP.pending, pF_get1, rfl, _, rfl, ?_⟩
      rw [e]
      exact iteF (hq _ (Same.refl _))
    · refine ⟨_, rfl, y.p, CP, y.dp, _, _, rfl, hP.ob, XP.cl, XP.pending, pF_get1, rfl, _, rfl, ?_⟩
      rw [e]
      refine iteT ?_
      refine ⟨_, rfl, r, CR, R.dx, _, _, rfl, hR.ob, X.cl, X.things, rF_get1, _, rfl, y.p, CP, y.dp, _, _, rfl, hP.ob, XP.cl, XP.pending, pF_get1, ?_⟩
      exact ⟨R.th, wt, R.T, word, rest, b, by rw [e]; rfl, hR.t, hW, hN, hq⟩
abbrev s_wish : Stmt := inClass (top 52) 1
theorem sc_wish : FnScope ["self", "k"] ["self", "k"] (defScope s_wish) := ⟨rfl, rfl, rfl, by decide +kernel, rfl, by decide +kernel, by decide +kernel⟩
theorem ok_wish {f fP : Addr} {fd fdP : FuncData} (F : Fun K "wish" "Run.wish" s_wish f fd) (XP : PTxt K CP) (G : FnOk P w K mg base (L2.CX P w) 3 fP fdP ["run", "k"] (spPlace K CR CT CP CW)) (mP : mg "place_of" = some (.ref fP)) (kP : PySem.W.keepIn K (.ref fP) = true) (bP : Binds K fdP ["run", "k"] []) :
    FnOk P w K mg base (L2.CX P w) 4 f fd ["self", "k"] (spOfPlace K CR CT CP CW PS.pend) := by
  refine F.okX sc_wish (fun vs H Q E h => ?_) (fun cdv A outer s H vs Q E hr h => ?_)
  · obtain ⟨r, R, x, b, rfl, _⟩ := h
    rfl
  · obtain ⟨r, R, x, b, rfl, hR, hW, k1, k2⟩ := h
    refine ⟨_, pss_one (ps_ret (pe_fld (pe_callS G hr rfl mP kP bP (fun σ => passAt (takes_of (E := E) rfl rfl rfl rfl) σ) (pa_cons (pv 0) (pa_cons (pv 1) pa_nil))) rfl)), ?_⟩
    refine ⟨_, rfl, _, rfl, r, R, x, b, rfl, hR, hW, k1, fun hb => ?_⟩
    obtain ⟨k, e, q1, q2⟩ := k2 hb
    refine ⟨k, e, fun n y en ey => ?_, q2⟩
    have hP := hR.e y (List.mem_of_getElem? ey)
    exact ⟨y.p, CP, y.dp, _, _, rfl, hP.ob, XP.cl, XP.pending, pF_get1, q1 n y en ey⟩
abbrev s_said : Stmt := inClass (top 52) 10
theorem sc_said : FnScope ["self", "k"] ["self", "k"] (defScope s_said) := ⟨rfl, rfl, rfl, by decide +kernel, rfl, by decide +kernel, by decide +kernel⟩
theorem ok_said {f fP : Addr} {fd fdP : FuncData} (F : Fun K "said" "Run.said" s_said f fd) (XP : PTxt K CP) (G : FnOk P w K mg base (L2.CX P w) 3 fP fdP ["run", "k"] (spPlace K CR CT CP CW)) (mP : mg "place_of" = some (.ref fP)) (kP : PySem.W.keepIn K (.ref fP) = true) (bP : Binds K fdP ["run", "k"] []) :
    FnOk P w K mg base (L2.CX P w) 4 f fd ["self", "k"] (spOfPlace K CR CT CP CW (fun y => .ref y.tw)) := by
  refine F.okX sc_said (fun vs H Q E h => ?_) (fun cdv A outer s H vs Q E hr h => ?_)
  · obtain ⟨r, R, x, b, rfl, _⟩ := h
    rfl
  · obtain ⟨r, R, x, b, rfl, hR, hW, k1, k2⟩ := h
    refine ⟨_, pss_one (ps_ret (pe_fld (pe_callS G hr rfl mP kP bP (fun σ => passAt (takes_of (E := E) rfl rfl rfl rfl) σ) (pa_cons (pv 0) (pa_cons (pv 1) pa_nil))) rfl)), ?_⟩
    refine ⟨_, rfl, _, rfl, r, R, x, b, rfl, hR, hW, k1, fun hb => ?_⟩
    obtain ⟨k, e, q1, q2⟩ := k2 hb
    refine ⟨k, e, fun n y en ey => ?_, q2⟩
    have hP := hR.e y (List.mem_of_getElem? ey)
    exact ⟨y.p, CP, y.dp, _, _, rfl, hP.ob, XP.cl, XP.words, pF_get3, q1 n y en ey⟩
abbrev s_cell : Stmt := inClass (top 52) 7
theorem sc_cell : FnScope ["self", "name"] ["self", "name"] (defScope s_cell) := ⟨rfl, rfl, rfl, by decide +kernel, rfl, by decide +kernel, by decide +kernel⟩
theorem ok_cell {f fT CN : Addr} {fd fdT : FuncData} (F : Fun K "cell" "Run.cell" s_cell f fd) (X : RTxt K CR) (XT : TTxt K CT) (G : FnOk P w K mg base (L2.CX P w) 3 fT fdT ["names", "name"] (spCkT K CN)) (mT : mg "check_thing" = some (.ref fT)) (kT : PySem.W.keepIn K (.ref fT) = true) (bT : Binds K fdT ["names", "name"] []) :
    FnOk P w K mg base (L2.CX P w) 4 f fd ["self", "name"] (spCellOf K CR CT CP CN (fun T => T.cells)) := by
  refine F.okX sc_cell (fun vs H Q E h => ?_) (fun cdv A outer s H vs Q E hr h => ?_)
  · obtain ⟨r, R, y, l, b, rfl, _⟩ := h
    rfl
  · obtain ⟨r, R, y, l, b, rfl, hR, hl, hA, k1, k2⟩ := h
    have hu := hu_of hr
    refine ⟨_, pss_cons (ps_expr (pe_callS G hr rfl mT kT bT (fun σ => passAt (takes_of (E := E) rfl rfl rfl rfl) σ) (pa_cons (pe_fld (pe_fld (pv 0) rfl) rfl) (pa_cons (pv 1) pa_nil))))
      (pss_one (ps_ret (pe_dget hu (pe_fld (pe_fld (pv 0) rfl) rfl) (pv 1) (fun _ _ => rfl)))), ?_⟩
    refine ⟨_, rfl, r, CR, R.dx, _, _, rfl, hR.ob, X.cl, X.things, rF_get1, R.th, CT, R.T.dx, _, _, rfl, hR.t.ob, XT.cl, XT.cells, tF_get0, _, rfl, .ref R.T.cd, y, l, b, rfl, .inl ⟨R.T.cd, R.T.cells, rfl, .inl hR.t.c, hl⟩, hA, fun hb => ?_, k1⟩
    obtain ⟨nm, v, rfl, e, hq⟩ := k2 hb
    exact ⟨_, rfl, r, CR, R.dx, _, _, rfl, hR.ob, X.cl, X.things, rF_get1, R.th, CT, R.T.dx, _, _, rfl, hR.t.ob, XT.cl, XT.cells, tF_get0, _, rfl, R.T.cd, v, rfl, e ▸ DGet.k (k := Sum.inr nm) hR.t.c, hq⟩
abbrev s_belt : Stmt := inClass (top 52) 9
theorem sc_belt : FnScope ["self", "name"] ["self", "name"] (defScope s_belt) := ⟨rfl, rfl, rfl, by decide +kernel, rfl, by decide +kernel, by decide +kernel⟩
theorem ok_belt {f fT CN : Addr} {fd fdT : FuncData} (F : Fun K "belt" "Run.belt" s_belt f fd) (X : RTxt K CR) (XT : TTxt K CT) (G : FnOk P w K mg base (L2.CX P w) 3 fT fdT ["names", "name"] (spCkT K CN)) (mT : mg "check_thing" = some (.ref fT)) (kT : PySem.W.keepIn K (.ref fT) = true) (bT : Binds K fdT ["names", "name"] []) :
    FnOk P w K mg base (L2.CX P w) 4 f fd ["self", "name"] (spCellOf K CR CT CP CN (fun T => T.rows)) := by
  refine F.okX sc_belt (fun vs H Q E h => ?_) (fun cdv A outer s H vs Q E hr h => ?_)
  · obtain ⟨r, R, y, l, b, rfl, _⟩ := h
    rfl
  · obtain ⟨r, R, y, l, b, rfl, hR, hl, hA, k1, k2⟩ := h
    have hu := hu_of hr
    refine ⟨_, pss_cons (ps_expr (pe_callS G hr rfl mT kT bT (fun σ => passAt (takes_of (E := E) rfl rfl rfl rfl) σ) (pa_cons (pe_fld (pe_fld (pv 0) rfl) rfl) (pa_cons (pv 1) pa_nil))))
      (pss_one (ps_ret (pe_dget hu (pe_fld (pe_fld (pv 0) rfl) rfl) (pv 1) (fun _ _ => rfl)))), ?_⟩
    refine ⟨_, rfl, r, CR, R.dx, _, _, rfl, hR.ob, X.cl, X.things, rF_get1, R.th, CT, R.T.dx, _, _, rfl, hR.t.ob, XT.cl, XT.rows, tF_get2, _, rfl, .ref R.T.rd, y, l, b, rfl, .inl ⟨R.T.rd, R.T.rows, rfl, .inl hR.t.r, hl⟩, hA, fun hb => ?_, k1⟩
    obtain ⟨nm, v, rfl, e, hq⟩ := k2 hb
    exact ⟨_, rfl, r, CR, R.dx, _, _, rfl, hR.ob, X.cl, X.things, rF_get1, R.th, CT, R.T.dx, _, _, rfl, hR.t.ob, XT.cl, XT.rows, tF_get2, _, rfl, R.T.rd, v, rfl, e ▸ DGet.k (k := Sum.inr nm) hR.t.r, hq⟩
end
end TW
namespace L2
open PySem PySem.Spec PyProof.Rows
theorem pg_tupC {X : Cx} {s : Shared} {H : Hp} {scope : Scope} {env : Env} {fp : List Addr} {es : List Expr} {k n : Nat} {t : TGs} {pos : Pos} (hc : (X.blk s H scope env fp).calm = true) (h : PGs (X.blk s H scope env fp) es t)
    (hn : (assignEach es (X.blk s H scope env fp).env).length = n := by rfl) (hst : (assignEach es (X.blk s H scope env fp).env).findIdx? (·.1) = none := by rfl) : PG (X.blk s H scope env fp) (.Tuple es k pos) (gTup X.K n t) :=
  pg_tup (X := X.blk s H scope env fp) hc h hn hst
end L2
namespace TW
open PySem PySem.Spec PyProof.Rows L2
abbrev s_can : Stmt := inClass (top 52) 2
/-- the numbers below i that are told True -/
def upTo (f : Nat → Bool) : Nat → List V
  | 0 => []
  | i + 1 => if f i = true then upTo f i ++ [.int (i : Nat)] else upTo f i
theorem upTo_len (f : Nat → Bool) (i : Nat) : (upTo f i).length ≤ i := by
  induction i with
  | zero => exact Nat.le_refl _
  | succ i ih =>
    unfold upTo
    split
    · rw [List.length_append]
      exact Nat.succ_le_succ ih
    · exact Nat.le_succ_of_le ih
/-- a relation of values that new objects don't change -/
def Keeps (Rel : Hp → V → V → Bool → Prop) : Prop := ∀ H H' x y b, Same H H' → Rel H x y b → Rel H' x y b
section
variable {K : PySem.W.Frag} {H H' : Hp} {Rel : Hp → V → V → Bool → Prop}
theorem Roomy.same {T : TS} {s : Str} {b : Bool} (e : Same H H') (h : Roomy K H T s b) : Roomy K H' T s b := by
  obtain ⟨sz, a, row, e1, e2, q, k⟩ := h
  exact ⟨sz, a, row, e1, e2, seqT_same e q, k⟩
theorem Needs.same (k : Keeps Rel) {T : TS} {word : Str} {rest : List V} {b : Bool} (e : Same H H') (h : Needs K Rel H T word rest b) : Needs K Rel H' T word rest b := by
  obtain ⟨k1, k2, k3, k4, k5⟩ := h
  refine ⟨fun c => ?_, k2, fun c => ?_, fun c => ?_, k5⟩
  · obtain ⟨s, x, l, v, e1, e2, e3⟩ := k1 c
    exact ⟨s, x, l, v, e1, e2, k _ _ _ _ _ e e3⟩
  · obtain ⟨s, l, e1, e2⟩ := k3 c
    exact ⟨s, l, e1, e2.same e⟩
  · obtain ⟨s, l, a, row, e1, e2, e3, e4⟩ := k4 c
    exact ⟨s, l, a, row, e1, e2, seqT_same e e3, e4⟩
theorem CanGo.same (k : Keeps Rel) {T : TS} {pend : V} {b : Bool} (e : Same H H') (h : CanGo K Rel H T pend b) : CanGo K Rel H' T pend b := by
  rcases h with h | ⟨wt, word, rest, e1, e2, e3⟩
  · exact .inl h
  · exact .inr ⟨wt, word, rest, e1, seqT_same e e2, e3.same k e⟩
end
def spCan (K : PySem.W.Frag) (CR CT CP : Addr) (Rel : Hp → V → V → Bool → Prop) : Sp := fun vs H Q _ => ∃ (r : Addr) (R : RS) (f : Nat → Bool), vs = [.ref r] ∧ RunAt K CR CT CP H r R ∧ R.places.length ≤ 1000 ∧ (∀ (i : Nat) y, R.places[i]? = some y → CanGo K Rel H R.T y.pend (f i)) ∧
  ∀ (D : Addr) (H' : Hp), H D = none → Same H H' → H' D = some (.lst (upTo f R.places.length)) → Q (.ref D) H'
section
variable {P : Program} {w : World} {K : PySem.W.Frag} {mg : Str → Option Value} {base : Heap} {CR CT CP CW : Addr} {n : Nat}
theorem sc_can : FnScope ["self", "k", "place"] ["self"] (defScope s_can) := ⟨rfl, rfl, rfl, by decide +kernel, rfl, by decide +kernel, by decide +kernel⟩
theorem ok_can {f fG : Addr} {fd fdG : FuncData} {Rel : Hp → V → V → Bool → Prop} (hk : Keeps Rel) (F : Fun K "can" "Run.can" s_can f fd) (B : Blt mg) (X : RTxt K CR) (G : FnOk P w K mg base CX0 (n + 3) fG fdG ["run", "place"] (spCanGo K CR CT CP Rel)) (mG : mg "can_go" = some (.ref fG)) (kG : PySem.W.keepIn K (.ref fG) = true) (bG : Binds K fdG ["run", "place"] []) :
    FnOk P w K mg base CX0 (n + 4) f fd ["self"] (spCan K CR CT CP Rel) := by
  refine F.ok sc_can (fun vs H Q E h => ?_) (fun cdv A outer s H vs Q E hr h => ?_)
  · obtain ⟨r, R, g, rfl, _⟩ := h
    rfl
  · obtain ⟨r, R, g, rfl, hR, few, hC, hq⟩ := h
    refine ⟨_, pss_one (ps_ret (pe_lc (own := [("k", 1), ("place", 2)]) rfl sc_can.nd (pi_enum (by rfl) B.enumerate (pa_cons (pe_fld (pv 0) rfl) pa_nil)) (blkOk_by (N := ["self", "k", "place"]) (sc := defScope s_can) (by decide +kernel))
      (fun _ _ _ _ _ => pg_tupC (n := 2) rfl (pgs_cons (pg_name (i := 1) sc_can.nd rfl (Or.inl rfl)) (pgs_cons (pg_name (i := 2) sc_can.nd rfl (Or.inl rfl)) pgs_nil)))
      (fun _ _ _ _ _ => pts_one (pt_val (pe_call G hr rfl mG kG bG .nil pass0 (pa_cons (pv 0) (pa_cons (pv 2) pa_nil)))))
      (fun _ _ _ _ _ => pv 1))), ?_⟩
    refine ⟨_, rfl, r, CR, R.dx, _, _, rfl, hR.ob, X.cl, X.places, rF_get2, R.pl, _, rfl, SqL.of hR.p, fun D hD => ?_⟩
    refine lc_it (walk_enum (K := K) (a := R.pl) (xs := R.places.map fun x => V.ref x.p)) (fun i H' => Same H H' ∧ H' D = some (.lst (upTo g i))) ⟨same_new hD, upd_same⟩ (fun i H' _ p => SqL.of (p.1 _ _ hR.p)) (fun i x H1 H' hi p y => ?_) (fun H1 p => ?_)
    · obtain ⟨T, x1, x2, rfl, hT, rfl, e1, e2⟩ := y
      obtain rfl := (Option.some.inj e1).symm
      rw [List.length_map] at hi
      have ey : R.places[i]? = some R.places[i] := List.getElem?_eq_getElem hi
      dsimp only at e2
      rw [List.getElem?_map, ey] at e2
      obtain rfl := (Option.some.inj e2).symm
      have sT := same_new (o := HO.tup [V.int (i : Nat), V.ref R.places[i].p]) hT
      have sm := p.1.trans sT
      refine ⟨T, [.int (i : Nat), .ref R.places[i].p], rfl, SqT.of upd_same, rfl, _, _, rfl, _, _, rfl, rfl, rfl, ?_⟩
      refine ⟨_, rfl, _, rfl, r, R, R.places[i], g i, rfl, hR.same sm, (hR.e _ (List.mem_of_getElem? ey)).same sm, (hC i _ ey).same hk sm, fun H2 s2 => ⟨_, rfl, ?_⟩⟩
      have s3 := sm.trans s2
      have d2 := s2 _ _ (sT _ _ p.2)
      cases e : g i with
      | true =>
        refine iteT ?_
        refine ⟨_, rfl, upTo g i, d2, ?_, fun b o z => ?_, ?_⟩
        · exact Nat.lt_of_lt_of_le (Nat.lt_succ_of_le (Nat.le_trans (upTo_len g i) (Nat.le_trans (Nat.le_of_lt hi) few))) (small_sz (by decide))
        · rw [upd_ne (ne_of_none z hD)]
          exact s3 b o z
        · rw [upd_same]
          conv => rhs; unfold upTo
          rw [e]
          rfl
      | false =>
        refine iteF ⟨s3, ?_⟩
        conv => rhs; unfold upTo
        rw [e]
        exact d2
    · have z := p.2
      rw [List.length_map] at z
      exact hq D H1 hD p.1 z
end
end TW
namespace TW
open PySem PySem.Spec PyProof.Rows L2
theorem ixN_at {n j : Nat} (hj : j < n) : ixN n (j : Int) = some j := by
  unfold ixN
  simp [hj]
abbrev s_go : Stmt := inClass (top 52) 3
/-- the heap behind a go, but for the list of the steps done -/
def goHp (CR r : Addr) (R : RS) (n : Nat) (t2 plv : Addr) (H3 : Hp) : Hp := upd (upd H3 r (.ins CR R.dx (rF (.ref R.sh) (.ref t2) (.ref R.pl) (.ref R.dn)))) R.pl (.lst ((R.places.map fun x => V.ref x.p).set n (.ref plv)))
def GoFin (K : PySem.W.Frag) (CR CP r : Addr) (R : RS) (n : Nat) (y : PS) (t2 : Addr) (ans : V) (Q : VK) : VK := fun pl H3 => ∃ plv, pl = .ref plv ∧ H3 r = some (.ins CR R.dx (rF (.ref R.sh) (.ref R.th) (.ref R.pl) (.ref R.dn))) ∧ H3 R.pl = some (.lst (R.places.map fun x => V.ref x.p)) ∧ H3 R.dn = some (.lst R.done) ∧ R.dn ≠ R.pl ∧ R.done.length < sizeLine ∧
  H3 y.p = some (.ins CP y.dp (pF (.ref y.an) y.pend y.fin (.ref y.tw))) ∧ y.p ≠ r ∧
  ∀ t, goHp CR r R n t2 plv H3 t = none → Q ans (upd (upd (goHp CR r R n t2 plv H3) t (.tup [.int (n : Int), y.pend, ans])) R.dn (.lst (R.done ++ [.ref t])))
def spGo (P : Program) (w : World) (K : PySem.W.Frag) (CR CT CP CW CC pS : Addr) (S : Addr → Option Sp) (Rel : Hp → V → V → Bool → Prop) (spC : Sp) : Sp := fun vs H Q E => ∃ (r : Addr) (R : RS) (x : V) (b : Bool), vs = [.ref r, x] ∧ RunAt K CR CT CP H r R ∧ Whl K H x b ∧ (b = false → EX E CW "number" x H) ∧
  (b = true → ∃ k : Int, x = .int k ∧ (¬ (0 ≤ k ∧ k < (R.places.length : Int)) → EX E CW "number" x H) ∧ ∀ (n : Nat) y, k = (n : Int) → R.places[n]? = some y → ∃ c, CanGo K Rel H R.T y.pend c ∧ ∀ H1, Same H H1 → (c = false → EX E CC "number" x H1) ∧
    (c = true → ∀ (t2 dx cd hd rd : Addr) (G : Hp), H1 t2 = none → H1 dx = none → H1 cd = none → H1 hd = none → H1 rd = none → Same H1 G → ThingsAt K CT G t2 { R.T with dx := dx, cd := cd, hd := hd, rd := rd } →
      spDoStep K w pS S [.ref t2, x, y.pend] G (fun ans H2 => H2 r = some (.ins CR R.dx (rF (.ref R.sh) (.ref R.th) (.ref R.pl) (.ref R.dn))) ∧ PlaceAt K CP H2 y ∧ y.ans.length + 1 ≤ 100000 ∧
        ∀ an2 H3, Same H2 H3 → SqT K H3 an2 (y.ans ++ [ans]) → spC [.ref R.sh, x, .ref an2] H3 (GoFin K CR CP r R n y t2 ans Q) E) E0))
section
variable {P : Program} {w : World} {K : PySem.W.Frag} {mg : Str → Option Value} {base : Heap} {CR CT CP CW CC pS : Addr} {N : Nat}
def spUp0 (s1 : Sp) : Sp := fun vs H Q _ => ∃ (Q0 : VK) (E0 : XK), s1 vs H Q0 E0 ∧ ∀ v H', Q0 v H' → Q v H'
theorem fnOk_up0 {k : Nat} {f : Addr} {fd : FuncData} {ps : List Str} {sp : Sp} (F : FnOk P w K mg base CX0 k f fd ps sp) : FnOk P w K mg base CX0 k f fd ps (spUp0 sp) := by
  refine ⟨fun vs H Q E h => ?_, fun A outer s H args us vs Q E hr he hb hv hs => ?_⟩
  · obtain ⟨Q0, E0, h, _⟩ := h
    exact F.len _ _ _ _ h
  · obtain ⟨Q0, E0, h, hq⟩ := hs
    refine codeAny_mono (F.run A outer s H args us vs Q0 E0 hr he hb hv h) fun r s' c => ?_
    cases r with
    | error e => exact False.elim c
    | ok fl =>
      cases fl with
      | ret u =>
        obtain ⟨v, H', e1, e2, e3, e4, e5, e6⟩ := c
        exact ⟨v, H', e1, e2, e3, e4, e5, hq _ _ e6⟩
      | next => exact False.elim c
      | brk => exact False.elim c
      | cont => exact False.elim c
theorem fnOk_up {k : Nat} {f : Addr} {fd : FuncData} {ps : List Str} {sp : Sp} (F : FnOk P w K mg base (L2.CX P w) k f fd ps sp) : FnOk P w K mg base (L2.CX P w) k f fd ps (spUp sp) := by
  refine ⟨fun vs H Q E h => ?_, fun A outer s H args us vs Q E hr he hb hv hs => ?_⟩
  · obtain ⟨Q0, E0, h, _⟩ := h
    exact F.len _ _ _ _ h
  · obtain ⟨Q0, E0, h, h2, h3⟩ := hs
    exact codeAny_mono (F.run A outer s H args us vs Q0 E0 hr he hb hv h) fun r s' c => cr_up h2 h3 c
theorem sc_go : FnScope ["self", "k", "place", "things", "answer", "following"] ["self", "k"] (defScope s_go) := ⟨rfl, rfl, rfl, by decide +kernel, rfl, by decide +kernel, by decide +kernel⟩
theorem ok_go {f fP fG fA fD fC : Addr} {fd fdP fdG fdA fdD fdC : FuncData} {Rel : Hp → V → V → Bool → Prop} {S : Addr → Option Sp} {spC : Sp} (F : Fun K "go" "Run.go" s_go f fd) (X : RTxt K CR) (XP : PTxt K CP) (hN : 2 ≤ N)
    (GP : FnOk P w K mg base (L2.CX P w) N fP fdP ["run", "k"] (spPlace K CR CT CP CW)) (mP : mg "place_of" = some (.ref fP)) (kP : PySem.W.keepIn K (.ref fP) = true) (bP : Binds K fdP ["run", "k"] [])
    (GG : FnOk P w K mg base CX0 N fG fdG ["run", "place"] (spCanGo K CR CT CP Rel)) (mG : mg "can_go" = some (.ref fG)) (kG : PySem.W.keepIn K (.ref fG) = true) (bG : Binds K fdG ["run", "place"] [])
    (Z : Err1 P w K mg base "CanNot" "number" CC)
    (GA : FnOk P w K mg base CX0 N fA fdA ["things"] (spAgain K CT)) (mA : mg "things_again" = some (.ref fA)) (kA : PySem.W.keepIn K (.ref fA) = true) (bA : Binds K fdA ["things"] [])
    (GD : FnOk P w K mg base CX0 N fD fdD ["things", "k", "wish"] (spDoStep K w pS S)) (mD : mg "do_step" = some (.ref fD)) (kD : PySem.W.keepIn K (.ref fD) = true) (bD : Binds K fdD ["things", "k", "wish"] [])
    (GC : FnOk P w K mg base (L2.CX P w) N fC fdC ["shop", "k", "answers"] spC) (mC : mg "come" = some (.ref fC)) (kC : PySem.W.keepIn K (.ref fC) = true) (bC : Binds K fdC ["shop", "k", "answers"] []) :
    FnOk P w K mg base (L2.CX P w) (N + 1) f fd ["self", "k"] (spGo P w K CR CT CP CW CC pS S Rel spC) := by
  obtain ⟨fI, fdI, z, g⟩ := Z.ex
  refine F.okX sc_go (fun vs H Q E h => ?_) (fun cdv A outer s H vs Q E hr h => ?_)
  · obtain ⟨r, R, x, b, rfl, _⟩ := h
    rfl
  · obtain ⟨r, R, x, b, rfl, hR, hW, k1, k2⟩ := h
    have hr2 : Room 2 _ := hr.mono hN
    refine ⟨_, pss_cons (ps_set (i := 2) sc_go.nd rfl (.inl rfl) (pe_callS GP hr rfl mP kP bP (fun σ => passAt (takes_of (E := E) rfl rfl rfl rfl) σ) (pa_cons (pv 0) (pa_cons (pv 1) pa_nil))))
      (pss_cons (ps_if (pt_not (pt_val (pe_call GG hr rfl mG kG bG .nil pass0 (pa_cons (pv 0) (pa_cons (pv 2) pa_nil))))) (pss_one (ps_raise rfl (takes_of (E := E) rfl rfl rfl rfl) (pmk_err z g hr2 Z.m (pa_cons (pv 1) pa_nil)))) pss_nil)
      (pss_cons (ps_set (i := 3) sc_go.nd rfl (.inl rfl) (pe_call GA hr rfl mA kA bA .nil pass0 (pa_cons (pe_fld (pv 0) rfl) pa_nil)))
      (pss_cons (ps_set (i := 4) sc_go.nd rfl (.inl rfl) (pe_call (fnOk_up0 GD) hr rfl mD kD bD .nil pass0 (pa_cons (pv 3) (pa_cons (pv 1) (pa_cons (pe_fld (pv 2) rfl) pa_nil)))))
      (pss_cons (ps_set (i := 5) sc_go.nd rfl (.inl rfl) (pe_callS (fnOk_up GC) hr rfl mC kC bC (fun σ => passAt (takes_of (E := E) rfl rfl rfl rfl) σ) (pa_cons (pe_fld (pv 0) rfl) (pa_cons (pv 1) (pa_cons (pe_op op_catT2 (pe_fld (pv 2) rfl) (pe_tup (pa_cons (pv 4) pa_nil))) pa_nil)))))
      (pss_cons (ps_fld (pv 0) (pv 3) rfl)
      (pss_cons (ps_asg (pv 5) (pg_sub (pe_fld (pv 0) rfl) (pv 1) set_list))
      (pss_cons (ps_expr (pe_bm PySem.F.plainAttrs_list PySem.F.slot_list_append PySem.F.type_list_append mt_append (pe_fld (pv 0) rfl) (pa_cons (pe_tup (pa_cons (pv 1) (pa_cons (pe_fld (pv 2) rfl) (pa_cons (pv 4) pa_nil)))) pa_nil)))
      (pss_one (ps_ret (pv 4)))))))))), ?_⟩
    refine ⟨_, rfl, _, rfl, r, R, x, b, rfl, hR, hW, k1, fun hb => ?_⟩
    obtain ⟨k, rfl, q2, q1⟩ := k2 hb
    refine ⟨k, rfl, fun n y en ey => ?_, q2⟩
    subst en
    obtain ⟨c, hC, hgo⟩ := q1 n y rfl ey
    have hP := hR.e y (List.mem_of_getElem? ey)
    refine ⟨_, rfl, _, rfl, r, R, y, c, rfl, hR, hP, hC, fun H1 s1 => ⟨_, rfl, ?_⟩⟩
    cases c with
    | false => exact iteT ⟨_, rfl, _, rfl, (hgo H1 s1).1 rfl⟩
    | true =>
      refine iteF ?_
      have hR1 := hR.same s1
      refine ⟨_, rfl, r, CR, R.dx, _, _, rfl, hR1.ob, X.cl, X.things, rF_get1, R.th, R.T, rfl, hR1.t, fun t2 dx cd hd rd G n1 n2 n3 n4 n5 s2 hT => ?_⟩
      have hg := (hgo H1 s1).2 rfl t2 dx cd hd rd G n1 n2 n3 n4 n5 s2 hT
      have hP2 := (hP.same s1).same s2
      refine ⟨_, rfl, _, rfl, _, rfl, y.p, CP, y.dp, _, _, rfl, hP2.ob, XP.cl, XP.pending, pF_get1, ?_⟩
      refine ⟨_, _, hg, fun ans H2 q => ?_⟩
      obtain ⟨o2, p2, sz, hq⟩ := q
      refine ⟨_, rfl, r, CR, R.dx, _, _, rfl, o2, X.cl, X.shop, rF_get0, _, rfl, _, rfl, y.p, CP, y.dp, _, _, rfl, p2.ob, XP.cl, XP.answers, pF_get0, _, rfl, small_sz (n := 1) (by decide), fun t ht => ?_⟩
      have st := same_new (o := HO.tup [ans]) ht
      refine ⟨y.an, t, y.ans, [ans], rfl, rfl, seqT_same st p2.a, SqT.of upd_same, small_sz sz, fun e => ?_, fun _ e => (nomatch e), fun _ _ p hp => ?_⟩
      · have z := hq t _ st (by rw [e]; exact SqT.of upd_same)
        refine ⟨_, _, z, fun pl H3 q => ?_, fun _ _ _ z => z⟩
        obtain ⟨plv, rfl, o3, l3, d3, ne, few, py, pne, hq⟩ := q
        have hn : n < (R.places.map fun x => V.ref x.p).length := by
          rw [List.length_map]
          exact (List.getElem?_eq_some_iff.mp ey).1
        refine ⟨_, rfl, _, rfl, r, CR, R.dx, _, rfl, o3, X.cl, X.things, (by show 4 < 1000; decide), ?_⟩
        rw [rF_put1]
        have l4 : upd H3 r (.ins CR R.dx (rF (.ref R.sh) (.ref t2) (.ref R.pl) (.ref R.dn))) R.pl = _ := (upd_ne (ne_of l3 o3 (by intro z; cases z))).trans l3
        refine ⟨_, rfl, _, rfl, r, CR, R.dx, _, _, rfl, upd_same, X.cl, X.places, rF_get2, _, rfl, R.pl, _, _, n, rfl, rfl, l4, ixN_at hn, ?_⟩
        have o5 : goHp CR r R n t2 plv H3 r = some (.ins CR R.dx (rF (.ref R.sh) (.ref t2) (.ref R.pl) (.ref R.dn))) := (upd_ne (ne_of o3 l3 (by intro z; cases z))).trans upd_same
        have d5 : goHp CR r R n t2 plv H3 R.dn = some (.lst R.done) := (upd_ne ne).trans ((upd_ne (ne_of d3 o3 (by intro z; cases z))).trans d3)
        have y5 : goHp CR r R n t2 plv H3 y.p = _ := (upd_ne (ne_of py l3 (by intro z; cases z))).trans ((upd_ne pne).trans py)
        refine ⟨_, rfl, r, CR, R.dx, _, _, rfl, o5, X.cl, X.done, rF_get3, .inl ⟨rfl, _, SqL.of d5⟩, ?_⟩
        refine ⟨_, rfl, _, rfl, y.p, CP, y.dp, _, _, rfl, y5, XP.cl, XP.pending, pF_get1, _, rfl, small_sz (n := 3) (by decide), fun tt htt => ?_⟩
        exact ⟨R.dn, _, _, rfl, rfl, (upd_ne (ne_of_none d5 htt)).trans d5, few, _, rfl, hq tt htt⟩
      · have z := hq p _ (st.trans (same_new hp)) (SqT.of upd_same)
        refine ⟨_, _, z, fun pl H3 q => ?_, fun _ _ _ z => z⟩
        obtain ⟨plv, rfl, o3, l3, d3, ne, few, py, pne, hq⟩ := q
        have hn : n < (R.places.map fun x => V.ref x.p).length := by
          rw [List.length_map]
          exact (List.getElem?_eq_some_iff.mp ey).1
        refine ⟨_, rfl, _, rfl, r, CR, R.dx, _, rfl, o3, X.cl, X.things, (by show 4 < 1000; decide), ?_⟩
        rw [rF_put1]
        have l4 : upd H3 r (.ins CR R.dx (rF (.ref R.sh) (.ref t2) (.ref R.pl) (.ref R.dn))) R.pl = _ := (upd_ne (ne_of l3 o3 (by intro z; cases z))).trans l3
        refine ⟨_, rfl, _, rfl, r, CR, R.dx, _, _, rfl, upd_same, X.cl, X.places, rF_get2, _, rfl, R.pl, _, _, n, rfl, rfl, l4, ixN_at hn, ?_⟩
        have o5 : goHp CR r R n t2 plv H3 r = some (.ins CR R.dx (rF (.ref R.sh) (.ref t2) (.ref R.pl) (.ref R.dn))) := (upd_ne (ne_of o3 l3 (by intro z; cases z))).trans upd_same
        have d5 : goHp CR r R n t2 plv H3 R.dn = some (.lst R.done) := (upd_ne ne).trans ((upd_ne (ne_of d3 o3 (by intro z; cases z))).trans d3)
        have y5 : goHp CR r R n t2 plv H3 y.p = _ := (upd_ne (ne_of py l3 (by intro z; cases z))).trans ((upd_ne pne).trans py)
        refine ⟨_, rfl, r, CR, R.dx, _, _, rfl, o5, X.cl, X.done, rF_get3, .inl ⟨rfl, _, SqL.of d5⟩, ?_⟩
        refine ⟨_, rfl, _, rfl, y.p, CP, y.dp, _, _, rfl, y5, XP.cl, XP.pending, pF_get1, _, rfl, small_sz (n := 3) (by decide), fun tt htt => ?_⟩
        exact ⟨R.dn, _, _, rfl, rfl, (upd_ne (ne_of_none d5 htt)).trans d5, few, _, rfl, hq tt htt⟩
end
end TW
namespace TW
open PySem PySem.Spec PyProof.Rows L2
abbrev s_ends : Stmt := inClass (top 52) 6
abbrev s_over : Stmt := inClass (top 52) 12
def spEnds (K : PySem.W.Frag) (CR CT CP : Addr) : Sp := fun vs H Q _ => ∃ (r : Addr) (R : RS), vs = [.ref r] ∧ RunAt K CR CT CP H r R ∧ R.places.length ≤ 1000 ∧ ∀ (t : Addr) (H' : Hp), H t = none → Same H H' → H' t = some (.tup (R.places.map PS.fin)) → Q (.ref t) H'
def spOver (K : PySem.W.Frag) (CR CT CP : Addr) (Rel : Hp → V → V → Bool → Prop) : Sp := fun vs H Q _ => ∃ (r : Addr) (R : RS) (f : Nat → Bool), vs = [.ref r] ∧ RunAt K CR CT CP H r R ∧ R.places.length ≤ 1000 ∧ (∀ (i : Nat) y, R.places[i]? = some y → CanGo K Rel H R.T y.pend (f i)) ∧
  ∀ H', Same H H' → Q (.bl (upTo f R.places.length).isEmpty) H'
section
variable {P : Program} {w : World} {K : PySem.W.Frag} {mg : Str → Option Value} {base : Heap} {CR CT CP CW : Addr} {n : Nat}
theorem sc_ends : FnScope ["self", "place"] ["self"] (defScope s_ends) := ⟨rfl, rfl, rfl, by decide +kernel, rfl, by decide +kernel, by decide +kernel⟩
theorem ok_ends {f : Addr} {fd : FuncData} (F : Fun K "ends" "Run.ends" s_ends f fd) (B : Blt mg) (X : RTxt K CR) (XP : PTxt K CP) : FnOk P w K mg base CX0 1 f fd ["self"] (spEnds K CR CT CP) := by
  refine F.ok sc_ends (fun vs H Q E h => ?_) (fun cdv A outer s H vs Q E hr h => ?_)
  · obtain ⟨r, R, rfl, _⟩ := h
    rfl
  · obtain ⟨r, R, rfl, hR, few, hq⟩ := h
    refine ⟨_, pss_one (ps_ret (pe_callTy call_tuple_of (by rfl) B.tuple (by decide +kernel) (pa_cons (pe_lc (own := [("place", 1)]) rfl sc_ends.nd (pi_list (pe_fld (pv 0) rfl)) (blkOk_by (N := ["self", "place"]) (sc := defScope s_ends) (by decide +kernel))
      (fun _ _ _ _ _ => pg_name (i := 1) sc_ends.nd rfl (Or.inl rfl)) (fun _ _ _ _ _ => pts_nil) (te := tFld K (tVar 1) "end") (fun _ _ _ _ _ => by exact pe_fld (pv 1) rfl)) pa_nil))), ?_⟩
    refine ⟨_, rfl, r, CR, R.dx, _, _, rfl, hR.ob, X.cl, X.places, rF_get2, R.pl, rfl, ⟨_, SqL.of hR.p⟩, fun D hD => ?_⟩
    refine lc_list (K := K) (a := R.pl) (xs := R.places.map fun x => V.ref x.p) (fun i H' => Same H H' ∧ H' D = some (.lst ((R.places.take i).map PS.fin))) ⟨same_new hD, upd_same⟩ (fun i H' _ p => SqL.of (p.1 _ _ hR.p)) (fun i x H' e p => ?_) (fun H1 p => ?_)
    · rw [List.getElem?_map] at e
      cases q : R.places[i]? with
      | none =>
        rw [q] at e
        cases e
      | some y =>
        rw [q] at e
        obtain rfl := (Option.some.inj e).symm
        have hP := (hR.e y (List.mem_of_getElem? q)).same p.1
        refine ⟨rfl, ?_⟩
        unfold tYes
        dsimp only
        refine iteT ?_
        refine ⟨_, rfl, y.p, CP, y.dp, _, _, rfl, hP.ob, XP.cl, XP.end_, pF_get2, _, p.2, ?_, fun b o z => ?_, ?_⟩
        · rw [List.length_map, List.length_take]
          exact Nat.lt_of_lt_of_le (Nat.lt_succ_of_le (Nat.le_trans (Nat.min_le_right _ _) few)) (small_sz (by decide))
        · rw [upd_ne (ne_of_none z hD)]
          exact p.1 b o z
        · rw [upd_same, take_one q, List.map_append]
          rfl
    · have z := p.2
      rw [List.length_map, List.take_length] at z
      refine ⟨D, _, rfl, .inl ⟨SqL.of z, fun t ht => ?_⟩⟩
      exact hq t _ (p.1.free ht) (p.1.trans (same_new ht)) upd_same
theorem sc_over : FnScope ["self"] ["self"] (defScope s_over) := ⟨rfl, rfl, rfl, by decide +kernel, rfl, by decide +kernel, by decide +kernel⟩
theorem ok_over {f fC : Addr} {fd fdC : FuncData} {Rel : Hp → V → V → Bool → Prop} (F : Fun K "is_over" "Run.is_over" s_over f fd) (X : RTxt K CR) (hM : Meth K CR "can" fC) (G : FnOk P w K mg base CX0 (n + 4) fC fdC ["self"] (spCan K CR CT CP Rel)) (bC : Binds K fdC ["self"] []) :
    FnOk P w K mg base CX0 (n + 5) f fd ["self"] (spOver K CR CT CP Rel) := by
  refine F.ok sc_over (fun vs H Q E h => ?_) (fun cdv A outer s H vs Q E hr h => ?_)
  · obtain ⟨r, R, g, rfl, _⟩ := h
    rfl
  · obtain ⟨r, R, g, rfl, hR, few, hC, hq⟩ := h
    refine ⟨_, pss_one (ps_ret (pe_notT (pe_meth0 (pv 0) X.cl hM G hr bC .nil pass0))), ?_⟩
    refine ⟨_, rfl, r, R.dx, _, rfl, hR.ob, rF_no (by decide) (by decide) (by decide) (by decide), ?_⟩
    refine ⟨r, R, g, rfl, hR, few, hC, fun D H' hD sm e => ?_⟩
    refine ⟨_, .inl ⟨_, SqL.of e, rfl⟩, ?_⟩
    rw [Bool.not_not]
    exact hq H' sm
end
end TW
namespace TW
open PySem PySem.Spec PyProof.Rows L2
theorem walk_zipT {K : PySem.W.Frag} {a b : Addr} {xs ys : List V} {n : Nat} (hn : n = min xs.length ys.length) : Walk (RZ.ItzT K a b) n (fun H => SqT K H a xs ∧ SqT K H b ys) (YPair (fun i => xs[i]?) (fun i => ys[i]?)) := by
  subst hn
  constructor
  · intro i H hi q
    have h1 : i < xs.length := by omega
    have h2 : i < ys.length := by omega
    exact ⟨xs, ys, xs[i], ys[i], q.1, q.2, by simp [h1], by simp [h2]⟩
  · intro H q
    exact ⟨xs, ys, q.1, q.2, by omega⟩
  · rintro i H v H' _ q ⟨T, x, z, h1, h2, h3, h4, h5⟩
    exact ⟨T, x, z, h1, h2, h3, h4 xs q.1, h5 ys q.2⟩
/-- whether two values are the same, nested at most n deep; base: all but two tuples (numbers and tuples are compared only where neither or both are truths) -/
inductive Sm (K : PySem.W.Frag) (H : Hp) : Nat → V → V → Bool → Prop where
  | base (n : Nat) {x y : V} {T U : String} {i1 i2 ib jb : Bool} (tx : ∀ H', Same H H' → TyX K H' x (.type T)) (ty : ∀ H', Same H H' → TyX K H' y (.type U)) (k1 : kitB T "tuple" = some i1) (k2 : kitB U "tuple" = some i2) (k3 : (i1 && i2) = false)
      (b1 : kitB T "bool" = some ib) (b2 : kitB U "bool" = some jb) (sc : ib = jb → scal x y = true) : Sm K H n x y ((ib == jb) && decide (x = y))
  | tupN (n : Nat) {a c : Addr} {xs ys : List V} (ha : SqT K H a xs) (hc : SqT K H c ys) (ne : xs.length ≠ ys.length) : Sm K H n (.ref a) (.ref c) false
  | tup {n : Nat} {a c : Addr} {xs ys : List V} {bs : List Bool} (ha : SqT K H a xs) (hc : SqT K H c ys) (hl : xs.length = ys.length) (hb : xs.length = bs.length) (few : xs.length ≤ 1000)
      (each : ∀ (i : Nat) (x y : V) (b : Bool), xs[i]? = some x → ys[i]? = some y → bs[i]? = some b → Sm K H n x y b) : Sm K H (n + 1) (.ref a) (.ref c) (bs.all id)
theorem Sm.same {K : PySem.W.Frag} {H H' : Hp} {n : Nat} {x y : V} {b : Bool} (e : Same H H') (h : Sm K H n x y b) : Sm K H' n x y b := by
  induction h with
  | base n tx ty k1 k2 k3 b1 b2 sc => exact .base n (fun H'' z => tx H'' (e.trans z)) (fun H'' z => ty H'' (e.trans z)) k1 k2 k3 b1 b2 sc
  | tupN n ha hc ne => exact .tupN n (seqT_same e ha) (seqT_same e hc) ne
  | tup ha hc hl hb few _ ih => exact .tup (seqT_same e ha) (seqT_same e hc) hl hb few fun i x y b h1 h2 h3 => ih i x y b h1 h2 h3
theorem Sm.keeps {K : PySem.W.Frag} {n : Nat} : Keeps (fun H x y b => Sm K H n x y b) := fun _ _ _ _ _ e h => h.same e
abbrev sSm : Stmt := top 18
section
variable {P : Program} {w : World} {K : PySem.W.Frag} {mg : Str → Option Value} {base : Heap}
theorem scSm : FnScope ["one", "other", "inner", "partner"] ["one", "other"] (defScope sSm) := ⟨rfl, rfl, rfl, by decide +kernel, rfl, by decide +kernel, by decide +kernel⟩
theorem sm_body {f : Addr} {fd : FuncData} {n k : Nat} {spR : Sp} (F : Fun K "same" "same" sSm f fd) (B : Blt mg) (hm : mg "same" = some (.ref f)) (bS : Binds K fd ["one", "other"] [])
    (R : FnOk P w K mg base CX0 k f fd ["one", "other"] spR) (hR : ∀ m, n = m + 1 → spR = spSm (fun H x y b => Sm K H m x y b)) : FnOk P w K mg base CX0 (k + 1) f fd ["one", "other"] (spSm (fun H x y b => Sm K H n x y b)) := by
  refine F.ok scSm (fun vs H Q E h => ?_) (fun cdv A outer s H vs Q E hr h => ?_)
  · obtain ⟨x, y, b, rfl, _⟩ := h
    rfl
  · obtain ⟨x, y, b, rfl, hV, kQ⟩ := h
    refine ⟨_, pss_cons (ps_if (PW.pt (pw_and (pt_val (pe_callB call_isi (by rfl) B.isi (by decide +kernel) (pa_cons (pv 0) (pa_cons (pe_bltn (v := .ty "tuple") (by rfl) B.tuple (by decide +kernel) rfl) pa_nil))))
          (pw_and1 (pt_val (pe_callB call_isi (by rfl) B.isi (by decide +kernel) (pa_cons (pv 1) (pa_cons (pe_bltn (v := .ty "tuple") (by rfl) B.tuple (by decide +kernel) rfl) pa_nil)))))))
        (pss_cons (ps_if (pt_cmpR op_ne (pe_callB call_len_seq (by rfl) B.len PySem.boot_len (pa_cons (pv 0) pa_nil)) (pe_callB call_len_seq (by rfl) B.len PySem.boot_len (pa_cons (pv 1) pa_nil)) (nomark _)) (pss_one (ps_ret pe_bl)) pss_nil)
        (pss_one (ps_ret (pe_callB (cr_all rfl) (by rfl) B.all (by decide +kernel) (pa_cons
          (pe_lc (own := [("inner", 2), ("partner", 3)]) rfl scSm.nd (RZ.pi_zipA (by rfl) B.zip (pa_cons (pv 0) (pa_cons (pv 1) pa_nil))) (blkOk_by (N := ["one", "other", "inner", "partner"]) (sc := defScope sSm) (by decide +kernel))
            (fun _ _ _ _ _ => pg_tupC (n := 2) rfl (pgs_cons (pg_name (i := 2) scSm.nd rfl (Or.inl rfl)) (pgs_cons (pg_name (i := 3) scSm.nd rfl (Or.inl rfl)) pgs_nil))) (fun _ _ _ _ _ => pts_nil)
            (fun _ _ _ _ _ => pe_call R hr rfl hm F.kp bS .nil pass0 (pa_cons (pv 2) (pa_cons (pv 3) pa_nil)))) pa_nil))))) pss_nil)
      (pss_one (ps_ret (pe_and (pe_cmpR op_eq (pe_callB call_isi (by rfl) B.isi (by decide +kernel) (pa_cons (pv 0) (pa_cons (pe_bltn (v := .ty "bool") (by rfl) B.bool (by decide +kernel) rfl) pa_nil))) (pe_callB call_isi (by rfl) B.isi (by decide +kernel) (pa_cons (pv 1) (pa_cons (pe_bltn (v := .ty "bool") (by rfl) B.bool (by decide +kernel) rfl) pa_nil))) (nomark _))
        (pe_one (pe_cmpR op_eq (pv 0) (pv 1) (nomark _)))))), ?_⟩
    cases hV with
    | @base _ _ _ T U i1 i2 ib jb tx ty k1 k2 k3 b1 b2 sc =>
      refine ⟨_, rfl, _, _, _, _, _, rfl, .ty _, tx _ (Same.refl _), kit_ty k1, _, rfl, ?_⟩
      cases i1 with
      | false =>
        refine iteF (iteF ?_)
        refine ⟨_, rfl, _, _, _, _, _, rfl, .ty _, tx _ (Same.refl _), kit_ty b1, _, rfl, _, _, _, _, _, rfl, .ty _, ty _ (Same.refl _), kit_ty b2, rfl, _, rfl, ?_⟩
        have z := kQ _ (Same.refl _)
        by_cases c : ib = jb
        · subst c
          refine iteD rfl ?_
          refine ⟨_, rfl, _, rfl, sc rfl, ?_⟩
          have e : (ib == ib) = true := by cases ib <;> rfl
          rw [e, Bool.true_and] at z
          exact z
        · rw [decide_eq_false (fun z => c (V.bl.inj z))]
          have e : (ib == jb) = false := by
            cases ib <;> cases jb <;> first | rfl | exact absurd rfl c
          rw [e, Bool.false_and] at z
          exact iteF z
      | true =>
        refine iteT ?_
        have e2 : i2 = false := k3
        subst e2
        refine ⟨_, rfl, _, _, _, _, _, rfl, .ty _, ty _ (Same.refl _), kit_ty k2, _, rfl, ?_⟩
        refine iteF ?_
        refine ⟨_, rfl, _, _, _, _, _, rfl, .ty _, tx _ (Same.refl _), kit_ty b1, _, rfl, _, _, _, _, _, rfl, .ty _, ty _ (Same.refl _), kit_ty b2, rfl, _, rfl, ?_⟩
        have z := kQ _ (Same.refl _)
        by_cases c : ib = jb
        · subst c
          refine iteD rfl ?_
          refine ⟨_, rfl, _, rfl, sc rfl, ?_⟩
          have e : (ib == ib) = true := by cases ib <;> rfl
          rw [e, Bool.true_and] at z
          exact z
        · rw [decide_eq_false (fun z => c (V.bl.inj z))]
          have e : (ib == jb) = false := by
            cases ib <;> cases jb <;> first | rfl | exact absurd rfl c
          rw [e, Bool.false_and] at z
          exact iteF z
    | @tupN _ a c xs ys ha hc ne =>
      refine ⟨_, rfl, _, _, _, _, _, rfl, .ty _, tyx_tup ha, kit_ty (r := true) (by decide +kernel), _, rfl, ?_⟩
      refine iteT ?_
      refine ⟨_, rfl, _, _, _, _, _, rfl, .ty _, tyx_tup hc, kit_ty (r := true) (by decide +kernel), _, rfl, ?_⟩
      refine iteT ?_
      refine ⟨_, rfl, a, _, rfl, .inr ha, _, rfl, c, _, rfl, .inr hc, rfl, _, rfl, ?_⟩
      rw [decide_eq_false (by intro z; apply ne; have := V.int.inj z; omega)]
      exact iteT (kQ _ (Same.refl _))
    | @tup m a c xs ys bs ha hc hl hb few each =>
      have e := hR m rfl
      subst e
      refine ⟨_, rfl, _, _, _, _, _, rfl, .ty _, tyx_tup ha, kit_ty (r := true) (by decide +kernel), _, rfl, ?_⟩
      refine iteT ?_
      refine ⟨_, rfl, _, _, _, _, _, rfl, .ty _, tyx_tup hc, kit_ty (r := true) (by decide +kernel), _, rfl, ?_⟩
      refine iteT ?_
      refine ⟨_, rfl, a, _, rfl, .inr ha, _, rfl, c, _, rfl, .inr hc, rfl, _, rfl, ?_⟩
      rw [decide_eq_true (by rw [hl])]
      refine iteF ?_
      refine ⟨_, rfl, _, rfl, a, c, xs, ys, rfl, .inr ⟨ha, hc, fun D hD => ?_⟩⟩
      refine lc_it (walk_zipT rfl) (fun i H' => Same H H' ∧ H' D = some (.lst ((bs.take i).map V.bl))) ⟨same_new hD, upd_same⟩ (fun i H' _ z => ⟨seqT_same z.1 ha, seqT_same z.1 hc⟩) ?_ ?_
      · rintro i v H' H'' hi ⟨z, hd⟩ ⟨T', x, y, rfl, hT', rfl, hx, hy⟩
        have hib : i < bs.length := by omega
        have eb : bs[i]? = some bs[i] := List.getElem?_eq_getElem hib
        refine ⟨T', [x, y], rfl, SqT.of upd_same, rfl, x, [y], rfl, y, [], rfl, rfl, rfl, ?_⟩
        unfold tYes
        dsimp only
        refine iteT ?_
        refine ⟨_, rfl, _, rfl, x, y, bs[i], rfl, (each i x y _ hx hy eb).same (z.trans (same_new hT')), fun H4 s4 => ?_⟩
        refine ⟨_, s4 _ _ (same_new hT' _ _ hd), ?_, fun c o e => ?_, ?_⟩
        · rw [List.length_map, List.length_take]
          exact Nat.lt_of_lt_of_le (Nat.lt_succ_of_le (Nat.le_trans (Nat.min_le_right _ _) (hb ▸ few))) (small_sz (by decide))
        · rw [upd_ne (ne_of_none e hD)]
          exact s4 c o (same_new hT' c o (z c o e))
        · rw [upd_same, take_one eb, List.map_append]
          rfl
      · rintro H' ⟨z, hd⟩
        rw [show min xs.length ys.length = bs.length by omega, List.take_length] at hd
        exact ⟨D, bs, rfl, SqL.of hd, kQ _ z⟩
theorem ok_same {f : Addr} {fd : FuncData} (F : Fun K "same" "same" sSm f fd) (B : Blt mg) (hm : mg "same" = some (.ref f)) (bS : Binds K fd ["one", "other"] []) : ∀ n, FnOk P w K mg base CX0 (n + 1) f fd ["one", "other"] (spSm (fun H x y b => Sm K H n x y b))
  | 0 => sm_body (spR := fun _ _ _ _ => False) F B hm bS fn_never (fun m e => nomatch e)
  | n + 1 => sm_body F B hm bS (ok_same F B hm bS n) (fun m e => by cases e; rfl)
end
end TW
namespace TW
open PySem PySem.Spec PyProof.Rows L2
/-- an expression of a row: a value, what was noted, what was noted and a number more -/
inductive Part where
  | value (v : V)
  | note (k : Int)
  | plus (k n : Int)
/-- a row of a plan: kind, name, parts, where its answer is noted -/
structure Row where
  kind : Str
  name : Str
  parts : List Part
  note : Int
/-- what stands for the name -/
def nameV (r : Row) : V := if r.kind = ("rest" : Str) then .non else .str r.name
def PartAt (K : PySem.W.Frag) (H : Hp) (x : V) : Part → Prop
  | .value v => ∃ t, x = .ref t ∧ SqT K H t [.str "value", v]
  | .note k => ∃ t, x = .ref t ∧ SqT K H t [.str "note", .int k]
  | .plus k n => ∃ t, x = .ref t ∧ SqT K H t [.str "plus", .int k, .int n]
structure RowAt (K : PySem.W.Frag) (H : Hp) (x : V) (r : Row) : Prop where
  ex : ∃ t ps xs, x = .ref t ∧ SqT K H t [.str r.kind, nameV r, .ref ps, .int r.note] ∧ SqT K H ps xs ∧ xs.length = r.parts.length ∧ ∀ (i : Nat) (y : V) (p : Part), xs[i]? = some y → r.parts[i]? = some p → PartAt K H y p
theorem PartAt.tk {K : PySem.W.Frag} {H H' : Hp} {x : V} {p : Part} (e : ∀ a xs, SqT K H a xs → SqT K H' a xs) (h : PartAt K H x p) : PartAt K H' x p := by
  cases p with
  | value v => exact h.imp fun t z => ⟨z.1, e _ _ z.2⟩
  | note k => exact h.imp fun t z => ⟨z.1, e _ _ z.2⟩
  | plus k n => exact h.imp fun t z => ⟨z.1, e _ _ z.2⟩
theorem RowAt.tk {K : PySem.W.Frag} {H H' : Hp} {x : V} {r : Row} (e : ∀ a xs, SqT K H a xs → SqT K H' a xs) (h : RowAt K H x r) : RowAt K H' x r := by
  obtain ⟨t, ps, xs, e1, e2, e3, e4, e5⟩ := h.ex
  exact ⟨t, ps, xs, e1, e _ _ e2, e _ _ e3, e4, fun i y p h1 h2 => (e5 i y p h1 h2).tk e⟩
/-- what was noted under k -/
def noted (ns : List (Key × V)) (k : Int) : V := (valV ns (Sum.inl k)).getD (.int 0)
/-- what an expression is, with these notes -/
def partV (ns : List (Key × V)) : Part → V
  | .value v => v
  | .note k => noted ns k
  | .plus k n => match noted ns k with
    | .int i => .int (i + n)
    | v => v
/-- what isinstance says of a value: whether it is an int and no truth -/
def NumT (K : PySem.W.Frag) (H : Hp) (v : V) : Prop := ∃ T a b, TyX K H v (.type T) ∧ kitB T "int" = some a ∧ kitB T "bool" = some b ∧ ((∃ i, v = .int i) ↔ (a && !b) = true)
theorem numT_vn {K : PySem.W.Frag} {H : Hp} {n : Nat} {v : V} (h : Vn K H n v true) : NumT K H v := by
  generalize hb : true = b at h
  cases h with
  | non => exact ⟨"NoneType", false, false, .base .non, by decide +kernel, by decide +kernel, ⟨fun ⟨i, e⟩ => (nomatch e), fun e => (nomatch e)⟩⟩
  | bl _ c => exact ⟨"bool", true, true, .base (.bl c), by decide +kernel, by decide +kernel, ⟨fun ⟨i, e⟩ => (nomatch e), fun e => (nomatch e)⟩⟩
  | int _ i => exact ⟨"int", true, false, .base (.int i), by decide +kernel, by decide +kernel, ⟨fun _ => rfl, fun _ => ⟨i, rfl⟩⟩⟩
  | str _ s => exact ⟨"str", false, false, .base (.str s), by decide +kernel, by decide +kernel, ⟨fun ⟨i, e⟩ => (nomatch e), fun e => (nomatch e)⟩⟩
  | tup h => exact ⟨"tuple", false, false, tyx_tup h, by decide +kernel, by decide +kernel, ⟨fun ⟨i, e⟩ => (nomatch e), fun e => (nomatch e)⟩⟩
  | other => cases hb
end TW
namespace L2
open PySem PySem.Spec PyProof.Rows LamX
/-- a lambda that has captured cl stands at f, its code object at c' -/
def CloV (f c' : Addr) (q : Str) (params : Arguments) (body : Expr) (scope : Scope) (cl : List (Str × Addr)) : HO := .ext fun h => ∃ pm ctv : Value, h.get? f = some (PySem.W.kla_obj "<lambda>" q params body scope cl pm c' ctv)
theorem cloV_ok {P : Program} {w : World} {H : Hp} {h : Heap} {f c' : Addr} {q : Str} {params : Arguments} {body : Expr} {scope : Scope} {cl : List (Str × Addr)} {pm ctv : Value} (e : h.get? f = some (PySem.W.kla_obj "<lambda>" q params body scope cl pm c' ctv)) : ObjOk P w H h f (CloV f c' q params body scope cl) :=
  ⟨⟨pm, ctv, e⟩, ⟨_, e⟩, fun _ _ ⟨a, b, z⟩ k => ⟨a, b, k _ z⟩⟩
section
variable {X : Cx} {pins : List (Addr × Obj)} {σ : L2.St} {H : Hp} {s : Shared}
/-- a lambda with captured names is made, and tracked -/
theorem cloV_laid {T : List (Addr × Str)} {c P : Addr} {params : Arguments} {body : Expr} {scope : Scope} {pos : Pos} {E : Value → Shared → Prop} {Q : Value → Shared → Prop} (I : Inv X pins σ H s) (TB : TabB X.base X.mg c P) (hcode : X.env.code = .ref c)
    (hm : (P, X.env.qual ++ "<lambda>") ∈ T) (hu : ∀ p ∈ T, p.1 = P → p.2 = X.env.qual ++ "<lambda>") (hT : Tabs T H) (hdef : defaultsOf params X.env = ([], [])) (hfr : ∀ y ∈ scope.names, y.2 = .free → ∃ c, X.env.cells.lookup y.1 = some c)
    (h : ∀ (f c' : Addr) (H1 : Hp) (s' : Shared), Inv X pins σ (upd H1 f (CloV f c' (X.env.qual ++ "<lambda>") params body scope (cloFrom X.env.cells scope.names []))) s' → ExtN H H1 → Tabs T H1 → H1 f = none → H1 c' = some (CodeO c' (X.env.qual ++ "<lambda>")) → Q (.ref f) s') :
    wpAny (model X.prog X.w) X.A (eval (.Lambda params body scope pos) X.env) Q E s := by
  obtain ⟨ps, hP, ht, ha⟩ := hT _ hm
  have okc : closureFor scope X.env = pure (cloFrom X.env.cells scope.names []) := closure_ok hfr
  refine PySem.W.kla_eval hdef ?_
  have bP : s.heap.BuiltinsAt X.mg P := TB.bm.keeps I.bk
  have hP' : s.heap.get? P = some { cls := .none, data := .fields ps } := I.hok P _ hP
  have lay : ∀ {H1 : Hp} {h' : Heap} {c' : Addr} {pm ctv : Value} {tk : Nat}, Inv X pins σ H1 { s with heap := h', toks := tk } →
      Inv X pins σ (upd H1 h'.objs.size (CloV h'.objs.size c' (X.env.qual ++ "<lambda>") params body scope (cloFrom X.env.cells scope.names []))) { s with heap := h'.push (PySem.W.kla_obj "<lambda>" (X.env.qual ++ "<lambda>") params body scope (cloFrom X.env.cells scope.names []) pm c' ctv), toks := tk } := fun {H1 h' c' pm ctv tk} J =>
    J.laid (t' := tk) (a := h'.objs.size) (h' := h'.push (PySem.W.kla_obj "<lambda>" (X.env.qual ++ "<lambda>") params body scope (cloFrom X.env.cells scope.names []) pm c' ctv)) (fun b o e => Heap.get?_push_of_some _ e) (Nat.le_refl _) (cloV_ok (Heap.get?_push_size _ rfl))
  cases hc : codeAmong pos ps.toList with
  | none =>
    refine PySem.W.kla_makeFunction (mg := X.mg) (c := c) (P := P) (ps := ps) okc I.ok.glob (I.mod.glob.keeps I.bk) hcode (TB.code.keeps I.bk) hP' ht hc TB.gP bP fun c' ctv h' tk hx hge hlt hrec htb => ?_
    obtain ⟨c2, oc, vs, t, e2, hoc, hd, hv⟩ := hrec
    cases e2
    have nC : H c' = none := I.hok.fresh hge
    have I1 := inv_table (q := X.env.qual ++ "<lambda>") (t' := tk) (more := #[rawInt pos.line, rawInt pos.col, .ref c']) (h' := h') I hP hx htb hge ⟨oc, vs, t, hoc, hd, hv⟩
    have hE : ExtN H (upd (upd H P (.tbl (ps ++ #[rawInt pos.line, rawInt pos.col, .ref c']))) c' (CodeO c' (X.env.qual ++ "<lambda>"))) := fun b o e n => by
      rw [upd_ne (ne_of_none e nC), upd_ne (fun z => n ps (Option.some.inj (e.symm.trans (by rw [z]; exact hP))))]
      exact e
    have eL : (ps ++ #[rawInt pos.line, rawInt pos.col, .ref c']).toList = ps.toList ++ [rawInt pos.line, rawInt pos.col, .ref c'] := by simp
    refine h h'.objs.size c' _ _ (lay I1) hE (fun p hp => ?_) ?_ upd_same
    · by_cases hb : p.1 = P
      · rw [hu p hp hb, hb]
        refine ⟨_, by rw [upd_ne (ne_of_none hP nC), upd_same], by rw [eL]; exact PySem.TriplesOk_snoc _ _ _ _ ht, fun p' cv hcv => ?_⟩
        rw [eL] at hcv
        rcases among_app _ ht hcv with z | z
        · obtain ⟨c0, e1, e2⟩ := ha p' cv z
          exact ⟨c0, e1, hE _ _ e2 codeO_ne⟩
        · exact ⟨c', z, upd_same⟩
      · obtain ⟨ps', a1, a2, a3⟩ := hT p hp
        refine ⟨ps', by rw [upd_ne (ne_of_none a1 nC), upd_ne hb]; exact a1, a2, fun p' cv hcv => ?_⟩
        obtain ⟨c0, e1, e2⟩ := a3 p' cv hcv
        exact ⟨c0, e1, hE _ _ e2 codeO_ne⟩
    · have z := I1.hok.fresh (Nat.le_refl h'.objs.size)
      exact z
  | some cv =>
    obtain ⟨c', e, hco⟩ := ha pos cv hc
    subst e
    refine PySem.W.kla_makeFunctionHit (mg := X.mg) (c := c) (P := P) (ps := ps) okc I.ok.glob (I.mod.glob.keeps I.bk) hcode (TB.code.keeps I.bk) hP' ht hc bP fun ctv h' tk hx hsz => ?_
    have I1 : Inv X pins σ H { s with heap := h', toks := tk } := I.kept fun b o e => hx b o e
    exact h h'.objs.size c' H _ (lay I1) (ExtN.refl H) hT (I1.hok.fresh (Nat.le_refl h'.objs.size)) hco
/-- lambda ..: .. as a value, with what it has captured -/
theorem pe_cloV {T : List (Addr × Str)} {c P : Addr} {params : Arguments} {body : Expr} {scope : Scope} {pos : Pos} (TB : TabB X.base X.mg c P) (hcode : X.env.code = .ref c)
    (hm : (P, X.env.qual ++ "<lambda>") ∈ T) (hu : ∀ p ∈ T, p.1 = P → p.2 = X.env.qual ++ "<lambda>") (hfr : ∀ y ∈ scope.names, y.2 = .free → ∃ c, X.env.cells.lookup y.1 = some c) (hdef : defaultsOf params X.env = ([], []) := by rfl) :
    PE X (.Lambda params body scope pos) (fun σ H Q => Tabs T H ∧ ∀ f c' H1, ExtN H H1 → Tabs T H1 → H1 f = none → H1 c' = some (CodeO c' (X.env.qual ++ "<lambda>")) → Q (.ref f) (upd H1 f (CloV f c' (X.env.qual ++ "<lambda>") params body scope (cloFrom X.env.cells scope.names [])))) :=
  ⟨fun pins s σ H Q I h => cloV_laid I TB hcode hm hu h.1 hdef hfr fun f c' H1 s' J e1 e2 e3 e4 => ⟨.ref f, _, J, rfl, h.2 f c' H1 e1 e2 e3 e4⟩⟩
end
/-- such a lambda of one parameter, over a base that knows it, its code and its cells -/
theorem cloAt_of {X : Cx} {σ : L2.St} {H : Hp} {L : List Addr} {B : Heap} (kb : Known X σ H L B) {f c' : Addr} {q y : Str} {params : Arguments} {body : Expr} {scope : Scope} {xs : List Str} {vs : List V}
    (hf : H f = some (CloV f c' q params body scope (cloFrom X.env.cells scope.names []))) (hc : H c' = some (CodeO c' q)) (mf : f ∈ L) (mc : c' ∈ L) (kind : scope.kind = .function) (co : scope.isCoroutine = false) (gen : scope.isGenerator = false)
    (own : ∀ z ∈ scope.names, z.2 ≠ .cell) (par : scope.names.lookup y = some .local) (hfr : ∀ z ∈ scope.names, z.2 = .free → ∃ c, X.env.cells.lookup z.1 = some c) (inj : ∀ x z c, X.env.cells.lookup x = some c → X.env.cells.lookup z = some c → x = z)
    (caps : ∀ (i : Nat) (x : Str) (v : V), xs[i]? = some x → vs[i]? = some v → scope.names.lookup x = some .free ∧ ∃ j : Nat, X.N[j]? = some x ∧ σ[j]? = some (some v) ∧ X.env.scope.names.lookup x = some .cell)
    (len : xs.length = vs.length) (bind : ∀ (pm ctv u : Value), bindArgs (PySem.W.kla_fn "<lambda>" q params body scope (cloFrom X.env.cells scope.names []) pm (.ref c') ctv) ⟨[u], []⟩ = pure [(y, u)]) :
    CloAt B f c' q params body scope (cloFrom X.env.cells scope.names []) y xs vs where
  fn := kb.ext f mf _ hf
  code := kb.ext c' mc _ hc
  kind := kind
  co := co
  gen := gen
  own := own
  par := par
  inj := fun x z c e1 e2 => inj x z c (NdefX.clo_cm hfr e1) (NdefX.clo_cm hfr e2)
  has := fun x e => by
    have m := PySem.mem_of_lookup e
    obtain ⟨c, hc⟩ := hfr _ m rfl
    exact ⟨c, NdefX.clo_has hfr m hc⟩
  cells := fun x c e => kb.any x c (NdefX.clo_cm hfr e)
  caps := fun i x v e1 e2 => by
    obtain ⟨h1, j, h2, h3, h4⟩ := caps i x v e1 e2
    have m := PySem.mem_of_lookup h1
    obtain ⟨c, hc⟩ := hfr _ m rfl
    obtain ⟨u, r, ic⟩ := kb.cell j x v c h2 h3 h4 hc
    exact ⟨c, u, NdefX.clo_has hfr m hc, h1, r, ic⟩
  len := len
  bind := bind
end L2
namespace L2
open PySem PySem.Spec PyProof.Rows LamX
/-- a cell that a frame has left behind, with what it holds -/
def CellO (c : Addr) (v : V) : HO := .ext fun h => ∃ u, RelV v u ∧ h.IsCell c (some u)
theorem cellO_ok {P : Program} {w : World} {H : Hp} {h : Heap} {c : Addr} {v : V} {u : Value} (r : RelV v u) (e : h.IsCell c (some u)) : ObjOk P w H h c (CellO c v) := by
  obtain ⟨o, ho, hd⟩ := e
  exact ⟨⟨u, r, o, ho, hd⟩, ⟨o, ho⟩, fun h h' ⟨u, r, o, ho, hd⟩ k => ⟨u, r, o, k _ ho, hd⟩⟩
/-- a def that ends at once by returning e: the cell of one of its parameters is tracked behind it -/
theorem fn_ret {P : Program} {w : World} {K : PySem.W.Frag} {mg : Str → Option Value} {base : Heap} {k : Nat} {f : Addr} {name qual : Str} {params : Arguments} {e : Expr} {pos : Pos} {scope : Scope} {dV kV doc pm cdv ct oc : Value} {an od : Option Addr}
    {osl : Array (Option Value)} {N ps : List Str} {sp : Sp} {i : Nat} {y : Str} (lk : K.lookup f = some ⟨oc, od, .func (PySem.W.fnOf name qual params [.Return (some e) pos] scope dV kV doc pm an cdv ct), osl⟩) (hcd : PySem.W.codeIn K cdv qual = true) (S : FnScope N ps scope)
    (hy : N[i]? = some y) (cy : scope.names.lookup y = some .cell) (len : ∀ vs H Q E, sp vs H Q E → vs.length = ps.length)
    (hbody : ∀ (A : Around) (outer : List Env) (s : Shared) (H : Hp) (vs : List V) (Q : VK) (E : XK), Room k (A.deeper (envOfC qual scope s.heap.objs.size f cdv)) → sp vs H Q E →
      ∃ te v0, (start N vs)[i]? = some (some v0) ∧ PE (cxOf CX0 P w K mg base N qual scope f cdv A outer s H E).nox e te ∧ te (start N vs) H fun v H' => ∀ c, (cxOf CX0 P w K mg base N qual scope f cdv A outer s H E).env.cells.lookup y = some c → H c = none → H' c = none → Q v (upd H' c (CellO c v0))) :
    FnOk P w K mg base CX0 (k + 1) f (PySem.W.fnOf name qual params [.Return (some e) pos] scope dV kV doc pm an cdv ct) ps sp := by
  refine ⟨len, fun A outer s H args us vs Q E hr e0 hb r hsp => ?_⟩
  have many := len _ _ _ _ hsp
  have inK : K.In s.heap := e0.mod.kin.keeps fun b o there => (e0.bs b o there).1
  have free : s.heap.NoLimit := e0.mod.nolimit.keeps fun b o there => (e0.bs b o there).1
  have each : ∀ z ∈ ps.zip us, scope.names.lookup z.1 = some .local ∨ (scope.names.lookup z.1 = some .cell ∧ ((cellsFrom (s.heap.objs.size + 1) scope.names []).lookup z.1).isSome = true) := fun z hz =>
    (S.par z.1 (List.of_mem_zip (a := z.1) (b := z.2) hz).1).imp id fun q => ⟨q, PySem.W.cellsFrom_some _ _ _ (.inl q)⟩
  refine codeAny_call_function hr.depth (inK _ _ lk) rfl S.co S.gen rfl (PySem.W.codeRec_of inK hcd) (hb _ _ _ _ ?_)
  refine wpAny_newFunctionEnv_cells S.kind each fun env same s1 x => ?_
  subst same
  refine ⟨free.keeps x.toInCall.keep, codeAny_func ?_⟩
  obtain ⟨te, v0, hv0, he, hq⟩ := hbody A outer s H vs Q E (hr.deeper _) hsp
  have I : Inv (cxOf CX0 P w K mg base N qual scope f cdv A outer s H E) [] (start N vs) H s1 := inv_start S hr.hd e0 many r x
  obtain ⟨R, hR⟩ : ∃ R : Flow → Shared → Prop, R = fun (fl : Flow) s' => ∃ u v H', fl = Flow.ret u ∧ Inv (cxOf CX0 P w K mg base N qual scope f cdv A outer s H E) [] (start N vs) H' s' ∧ RelV v u ∧ ∀ c, (cxOf CX0 P w K mg base N qual scope f cdv A outer s H E).env.cells.lookup y = some c → H c = none → H' c = none → Q v (upd H' c (CellO c v0)) := ⟨_, rfl⟩
  have run : wpAny (model P w) (cxOf CX0 P w K mg base N qual scope f cdv A outer s H E).A (execs [.Return (some e) pos] (cxOf CX0 P w K mg base N qual scope f cdv A outer s H E).env) R (cxOf CX0 P w K mg base N qual scope f cdv A outer s H E).xe s1 := by
    refine wpAny_execs_cons (thn (Q := R) (wpAny_Return_some (thn (he.nox.run [] s1 _ H _ I hq) fun u s2 ⟨v, H1, I1, r1, q1⟩ => ?_)) fun fl s2 z => ?_)
    · rw [hR]
      exact ⟨u, v, H1, rfl, I1, r1, q1⟩
    · rw [hR] at z
      obtain ⟨u, v, H1, rfl, z⟩ := z
      rw [hR]
      exact ⟨u, v, H1, rfl, z⟩
  refine wpAny_mono run (fun fl s' hs => ?_) fun e s' hs => hs
  rw [hR] at hs
  obtain ⟨u, v, H', rfl, J, rv, q⟩ := hs
  obtain ⟨m, _, look⟩ := J.loc
  obtain ⟨u0, r0, z⟩ := look i y v0 hy hv0 (.inr (.inl cy))
  rcases z with ⟨z, _⟩ | ⟨_, cc, ecc, hcell⟩
  · have z : scope.names.lookup y = some .local := z
    rw [cy] at z
    cases z
  have above : s.heap.objs.size ≤ cc := J.ok.cab y cc rfl ecc
  have off : H cc = none := e0.hok.fresh above
  have off' : H' cc = none := J.freeC y cc ecc
  refine ⟨v, upd H' cc (CellO cc v0), J.os, J.bare, ⟨J.base.keep, J.base.slot, fun b o e n x => ?_, J.base.there, fun b xs e => ?_, fun b o t e => ?_, fun b t e => ?_⟩, fun b o e => ?_, rv, q cc ecc off off'⟩
  · by_cases hb : b = cc
    · rw [hb] at e
      exact absurd (Heap.lt_size e) (Nat.not_lt.mpr above)
    · rw [upd_ne hb]
      exact J.base.free b o e n x
  · rw [upd_ne (ne_of_none e off)]
    exact J.base.tups b xs e
  · rw [upd_ne (ne_of_none e off)]
    exact J.base.frzs b o t e
  · rw [upd_ne (ne_of_none e off)]
    exact J.base.tbls b t e
  · by_cases hb : b = cc
    · subst hb
      rw [upd_same] at e
      obtain rfl := Option.some.inj e
      exact cellO_ok r0 hcell
    · rw [upd_ne hb] at e
      refine (J.hok b o e).stay (fun c u _ z => z) (fun c z => ?_) (fun c xs z => ?_)
      · rw [upd_ne (ne_of_none z off')]
        exact z
      · rw [upd_ne (ne_of_none z off')]
        exact z
/-- a lambda of one parameter with one captured cell, over a base that knows it, its code and that cell -/
theorem cloAt_cell {X : Cx} {σ : L2.St} {H : Hp} {L : List Addr} {B : Heap} (kb : Known X σ H L B) {f c' c : Addr} {q y z : Str} {v : V} {params : Arguments} {body : Expr} {scope : Scope} {cl : List (Str × Addr)}
    (hf : H f = some (CloV f c' q params body scope cl)) (hc : H c' = some (CodeO c' q)) (hv : H c = some (CellO c v)) (mf : f ∈ L) (mc : c' ∈ L) (mv : c ∈ L) (one : ∀ x a, cl.lookup x = some a → x = z ∧ a = c) (has : cl.lookup z = some c) (kind : scope.kind = .function) (co : scope.isCoroutine = false) (gen : scope.isGenerator = false)
    (own : ∀ z ∈ scope.names, z.2 ≠ .cell) (par : scope.names.lookup y = some .local) (fr : ∀ x, scope.names.lookup x = some .free → x = z) (isF : scope.names.lookup z = some .free) (bind : ∀ (pm ctv u : Value), bindArgs (PySem.W.kla_fn "<lambda>" q params body scope cl pm (.ref c') ctv) ⟨[u], []⟩ = pure [(y, u)]) :
    CloAt B f c' q params body scope cl y [z] [v] := by
  obtain ⟨u, r, ic⟩ := kb.ext c mv _ hv
  have caps : ∀ (i : Nat) (x : Str) (w : V), ([z] : List Str)[i]? = some x → ([v] : List V)[i]? = some w → ∃ c u, cl.lookup x = some c ∧ scope.names.lookup x = some .free ∧ RelV w u ∧ B.IsCell c (some u) := fun i x w e1 e2 => by
    match i, e1, e2 with
    | 0, e1, e2 =>
      cases e1
      cases e2
      exact ⟨c, u, has, isF, r, ic⟩
  exact { fn := kb.ext f mf _ hf, code := kb.ext c' mc _ hc, kind := kind, co := co, gen := gen, own := own, par := par, inj := fun x1 x2 a h1 h2 => (one _ _ h1).1.trans (one _ _ h2).1.symm, has := fun x h => ⟨c, by rw [fr x h]; exact has⟩, cells := fun x a h => ⟨some u, by rw [(one x a h).2]; exact ic⟩, caps := caps, len := rfl, bind := bind }
end L2
namespace L2
open PySem PySem.Spec PyProof.Rows
/-- of a callee that raises nothing -/
theorem passN {X : Cx} : Passes (L2.CX X.prog X.w) X E0 := fun _ _ _ _ _ _ _ h => (cx_false h).elim
end L2
namespace TW
open PySem PySem.Spec PyProof.Rows L2
abbrev sRI : Stmt := inClass (top 52) 0
/-- a new run: the things first, then a place for each work, whose runs raise nothing -/
def spRI (K : PySem.W.Frag) (CR CS CT : Addr) (spC : Sp) : Sp := fun vs H Q _ => ∃ (r dx sh : Addr) (S : SS) (m : Nat), vs = [.ref r, .ref sh] ∧ H r = some (.ins CR dx []) ∧ S.many = (m : Int) ∧ m ≤ 1000 ∧
  spFirst K CS CT [.ref sh] (upd H r (.ins CR dx [("shop", .ref sh)])) (fun tv G => G r = some (.ins CR dx [("shop", .ref sh)]) ∧ ShopAt K CS G sh S ∧ sh ≠ r ∧
    ∀ D, upd G r (.ins CR dx [("shop", .ref sh), ("things", tv)]) D = none → ∃ Pv : Nat → Hp → List V → Prop, Pv 0 (upd (upd G r (.ins CR dx [("shop", .ref sh), ("things", tv)])) D (.lst [])) [] ∧
      (∀ i H1 acc, i < m → Pv i H1 acc → H1 D = some (.lst acc) → ∀ t, H1 t = none → spC [.ref sh, .int (i : Nat), .ref t] (upd H1 t (.tup [])) (fun pl H2 => H2 D = some (.lst acc) ∧ Pv (i + 1) (upd H2 D (.lst (acc ++ [pl]))) (acc ++ [pl])) E0) ∧
      (∀ H1 acc, acc.length = m → Pv m H1 acc → H1 D = some (.lst acc) → H1 r = some (.ins CR dx [("shop", .ref sh), ("things", tv)]) ∧
        ∀ l, upd H1 r (.ins CR dx [("shop", .ref sh), ("things", tv), ("places", .ref D)]) l = none → Q .non (upd (upd (upd H1 r (.ins CR dx [("shop", .ref sh), ("things", tv), ("places", .ref D)])) l (.lst [])) r (.ins CR dx (rF (.ref sh) tv (.ref D) (.ref l)))))) E0
section
variable {P : Program} {w : World} {K : PySem.W.Frag} {mg : Str → Option Value} {base : Heap} {CR CS CT : Addr} {N : Nat}
theorem scRI : FnScope ["self", "shop", "k"] ["self", "shop"] (defScope sRI) := ⟨rfl, rfl, rfl, by decide +kernel, rfl, by decide +kernel, by decide +kernel⟩
theorem ok_RI {f fF fC : Addr} {fd fdF fdC : FuncData} {spC : Sp} (F : Fun K "__init__" "Run.__init__" sRI f fd) (B : Blt mg) (X : RTxt K CR) (XS : STxt K CS)
    (GF : FnOk P w K mg base CX0 N fF fdF ["shop"] (spFirst K CS CT)) (mF : mg "first_things" = some (.ref fF)) (kF : PySem.W.keepIn K (.ref fF) = true) (bF : Binds K fdF ["shop"] [])
    (GC : FnOk P w K mg base (L2.CX P w) N fC fdC ["shop", "k", "answers"] spC) (mC : mg "come" = some (.ref fC)) (kC : PySem.W.keepIn K (.ref fC) = true) (bC : Binds K fdC ["shop", "k", "answers"] []) :
    FnOk P w K mg base CX0 (N + 1) f fd ["self", "shop"] (spRI K CR CS CT spC) := by
  refine F.ok scRI (fun vs H Q E h => ?_) (fun cdv A outer s H vs Q E hr h => ?_)
  · obtain ⟨r, dx, sh, S, m, rfl, _⟩ := h
    rfl
  · obtain ⟨r, dx, sh, S, m, rfl, ho, hm, few, h⟩ := h
    refine ⟨_, pss_cons (ps_fld (pv 0) (pv 1) rfl)
      (pss_cons (ps_fld (pv 0) (pe_call (fnOk_up0 GF) hr rfl mF kF bF .nil pass0 (pa_cons (pv 1) pa_nil)) rfl)
      (pss_cons (ps_fld (pv 0) (pe_lc (own := [("k", 2)]) rfl scRI.nd (pi_range1 (by rfl) B.range (pa_cons (pe_fld (pv 1) rfl) pa_nil)) (blkOk_by (N := ["self", "shop", "k"]) (sc := defScope sRI) (by decide +kernel))
        (fun _ _ _ _ _ => pg_name (i := 2) scRI.nd rfl (Or.inl rfl)) (fun _ _ _ _ _ => pts_nil)
        (te := tCall (spUp spC) [] E0 (tCons (tVar 1) (tCons (tVar 2) (tCons (tTup tNil) tNil)))) (fun _ _ _ _ _ => by exact pe_call (fnOk_up GC) hr rfl mC kC bC .nil passN (pa_cons (pv 1) (pa_cons (pv 2) (pa_cons (pe_tup pa_nil) pa_nil))))) rfl)
      (pss_one (ps_fld (pv 0) (pe_lst pa_nil) rfl)))), ?_⟩
    refine ⟨_, rfl, _, rfl, r, CR, dx, _, rfl, ho, X.cl, X.shop, (by show 0 < 1000; decide), ?_⟩
    rw [rF_make0]
    refine ⟨_, rfl, _, _, h, fun tv G q => ?_⟩
    obtain ⟨o1, hS, ne, k⟩ := q
    refine ⟨_, rfl, r, CR, dx, _, rfl, o1, X.cl, X.things, (by show 1 < 1000; decide), ?_⟩
    rw [rF_make1]
    have hob : upd G r (.ins CR dx [("shop", .ref sh), ("things", tv)]) sh = _ := (upd_ne ne).trans hS.ob
    have em : S.many.toNat = m := by
      rw [hm]
      rfl
    refine ⟨_, rfl, sh, CS, S.dx, _, _, rfl, hob, XS.cl, XS.many, sF_get4, S.many, rfl, by rw [hm]; omega, by rw [hm]; omega, fun D hD => ?_⟩
    rw [em]
    obtain ⟨Pv, p0, pst, pen⟩ := k D hD
    refine lc_range (fun i H' => ∃ acc : List V, acc.length = i ∧ Pv i H' acc ∧ H' D = some (.lst acc)) ⟨[], rfl, p0, upd_same⟩ (fun i H' hi p => ?_) (fun H' p => ?_)
    · obtain ⟨acc, la, pp, hd⟩ := p
      refine ⟨rfl, ?_⟩
      unfold tYes
      dsimp only
      refine iteT ?_
      refine ⟨_, rfl, _, rfl, small_sz (n := 0) (by decide), fun t ht => ?_⟩
      have z := pst i H' acc hi pp hd t ht
      rw [← Int.zero_add (i : Int)] at z
      refine ⟨_, _, z, fun y H4 q => ?_, fun _ _ _ z => z⟩
      exact ⟨acc, q.1, Nat.lt_of_lt_of_le (by rw [la]; omega) (small_sz (n := 1001) (by decide)), acc ++ [y], by rw [List.length_append, la]; rfl, q.2, upd_same⟩
    · obtain ⟨acc, la, pp, hd⟩ := p
      obtain ⟨o5, q⟩ := pen H' acc la pp hd
      refine ⟨_, rfl, r, CR, dx, _, rfl, o5, X.cl, X.places, (by show 2 < 1000; decide), ?_⟩
      rw [rF_make2]
      refine ⟨small_sz (n := 0) (by decide), fun l hl => ?_⟩
      refine ⟨_, rfl, r, CR, dx, _, rfl, (upd_ne (ne_of_none upd_same hl)).trans upd_same, X.cl, X.done, (by show 3 < 1000; decide), ?_⟩
      rw [rF_make3]
      exact q l hl
end
end TW
namespace TW
open PySem PySem.Spec PyProof.Rows L2
theorem valV_mem {kvs : List (Key × V)} {k : Key} (h : k ∈ kvs.map (·.1)) : ∃ v, valV kvs k = some v := by
  induction kvs with
  | nil => cases h
  | cons p r ih =>
    by_cases e : p.1 = k
    · exact ⟨p.2, valV_pos e⟩
    · rw [List.map_cons, List.mem_cons] at h
      rcases h with h | h
      · exact absurd h.symm e
      · obtain ⟨v, hv⟩ := ih h
        exact ⟨v, by rw [valV_neg e]; exact hv⟩
end TW
namespace L2
open PySem PySem.Spec PyProof.Rows
/-- t + u, any tuples: what holds its items -/
theorem op_catU {X : Cx} : OpR X (binaryOp .Add) (fun x y H Q => ∃ a b xs ys, x = .ref a ∧ y = .ref b ∧ SqT X.K H a xs ∧ SqT X.K H b ys ∧ xs.length + ys.length ≤ sizeLine ∧ ∀ t G, Same H G → SqT X.K G t (xs ++ ys) → Q (.ref t) G) := by
  intro pins s σ H x y v u Q I rx ry h
  obtain ⟨a, b, xs, ys, ex, ey, ha, hb, hz, k⟩ := h
  refine op_catT2 pins s σ H x y v u Q I rx ry ⟨a, b, xs, ys, ex, ey, ha, hb, hz, fun e => ?_, fun _ e => ?_, fun _ _ p hp => ?_⟩
  · exact k b H (Same.refl _) (by rw [e]; exact hb)
  · exact k a H (Same.refl _) (by rw [e, List.append_nil]; exact ha)
  · exact k p _ (fun c u z => by rw [upd_ne (ne_of_none z hp)]; exact z) (SqT.of upd_same)
end L2
namespace TW
open PySem PySem.Spec PyProof.Rows L2
/-- the wish of a row -/
def rowWish (ns : List (Key × V)) (r : Row) : List V := if r.kind = ("rest" : Str) then [.str "rest"] else .str r.kind :: .str r.name :: r.parts.map (partV ns)
end TW
namespace TW
open PySem PySem.Spec PyProof.Rows L2
/-- tuples stand as they stood -/
def TK (K : PySem.W.Frag) (H H' : Hp) : Prop := ∀ a xs, SqT K H a xs → SqT K H' a xs
theorem TK.of {K : PySem.W.Frag} {H H' : Hp} (e : Same H H') : TK K H H' := fun _ _ h => seqT_same e h
theorem TK.trans {K : PySem.W.Frag} {H H' H'' : Hp} (a : TK K H H') (b : TK K H' H'') : TK K H H'' := fun _ _ h => b _ _ (a _ _ h)
/-- what a work has come to with its answers: its wish, its end, its words -/
abbrev Beh := Hp → List V → V → V → List V → Prop
def BehS (K : PySem.W.Frag) (B : Beh) : Prop := ∀ H H' ans p e ws, TK K H H' → B H ans p e ws → B H' ans p e ws
/-- all but a hand, its dict and its list stand -/
def Keep3 (hd md wl : Addr) (G H : Hp) : Prop := ∀ b o, b ≠ hd → b ≠ md → b ≠ wl → G b = some o → H b = some o
/-- what stood ahead of a new hand stands, apart from it -/
def Base3 (H0 : Hp) (hd md wl : Addr) (G : Hp) : Prop := ∀ b o, H0 b = some o → b ≠ hd ∧ b ≠ md ∧ b ≠ wl ∧ G b = some o
theorem Base3.same {H0 : Hp} {hd md wl : Addr} {G H : Hp} (b : Base3 H0 hd md wl G) (k : Keep3 hd md wl G H) : Same H0 H := fun a o e =>
  let ⟨e1, e2, e3, e4⟩ := b a o e
  k a o e1 e2 e3 e4
/-- a work, called with a new hand, does as B says -/
def WorkOk (P : Program) (w : World) (K : PySem.W.Frag) (mg : Str → Option Value) (base : Heap) (C CS CH : Addr) (kw n : Nat) (S : SS) (g : Addr) (me : Nat) (Adm : List V → Prop) (B : Beh) : Prop :=
  ∃ s1, FnR P w K mg base (L2.CX P w) kw g s1 ∧ PySem.W.FnAt g base ∧ ∀ (sh an : Addr) (ans : List V) (hd dx md wl : Addr) (H0 G : Hp), ShopAt K CS H0 sh S → Base3 H0 hd md wl G → Adm ans → HandAt K C G hd dx (hs0 (me : Int) sh an ans md wl) →
    spUp s1 [.ref hd] G
      (fun v H2 => ∃ h, HandAt K C H2 hd dx h ∧ Keep3 hd md wl G H2 ∧ ((h.halted = true ∧ B H2 ans h.pend h.fin h.words) ∨ (h.halted = false ∧ Vn K H2 n v true ∧ ∀ H3 t, Same H2 H3 → H3 t = some (.tup [.str "told", v]) → B H3 ans h.pend (.ref t) h.words)))
      (fun cls d H2 => cls = .ref CH ∧ ∃ h, HandAt K C H2 hd dx h ∧ Keep3 hd md wl G H2 ∧ h.halted = true ∧ B H2 ans h.pend h.fin h.words)
section
variable {P : Program} {w : World} {K : PySem.W.Frag} {mg : Str → Option Value} {base : Heap} {C CS CP CH CV : Addr} {kw n : Nat}
theorem come_use {S : SS} {g : Addr} {me : Nat} {Adm : List V → Prop} {B : Beh} (hB : BehS K B) (hx : PySem.W.exmOne K (.ref CH) (.ref CH) = some true) (Wk : WorkOk P w K mg base C CS CH kw n S g me Adm B) {H : Hp} {sh an : Addr} {ans : List V} (hS : ShopAt K CS H sh S) (ha : SqT K H an ans)
    (hw : S.works[me]? = some (.ref g)) (adm : Adm ans) {Q : VK} {E : XK}
    (k : ∀ (pl dp tw : Addr) (pend fin : V) (words : List V) (H' : Hp), Same H H' → H pl = none → H' pl = some (.ins CP dp (pF (.ref an) pend fin (.ref tw))) → SqT K H' tw words → B H' ans pend fin words → Q (.ref pl) H') :
    spCome P w K mg base C CS CP CH CV kw n [.ref sh, .int (me : Int), .ref an] H Q E := by
  obtain ⟨s1, hF, hA, run⟩ := Wk
  refine ⟨sh, an, me, ans, S, g, s1, rfl, hS, ha, hw, hF, hA, fun hd dx md wl G n1 n2 n3 n4 sG hG => ?_⟩
  have old : ∀ {H2 : Hp}, Keep3 hd md wl G H2 → Same H H2 := fun {H2} kp b o e => kp b o (ne_of_none e n1) (ne_of_none e n3) (ne_of_none e n4) (sG b o e)
  have fin : ∀ (h : HS) (H2 : Hp) (fv : V), Same H H2 → (∀ H3, Same H2 H3 → B H3 ans h.pend fv h.words) → AfterP CP an Q { h with fin := fv } H2 := fun h H2 fv sm b pl dp tw G' p1 p2 _ _ _ s2 o1 o2 => by
    refine k pl dp tw h.pend fv h.words G' (sm.trans s2) ?_ o1 (SqT.of o2) (b G' s2)
    cases e : H pl with
    | none => rfl
    | some o =>
      rw [sm _ _ e] at p1
      cases p1
  obtain ⟨Q0, E0, z1, z2, z3⟩ := run sh an ans hd dx md wl H G hS (fun b o e => ⟨ne_of_none e n1, ne_of_none e n3, ne_of_none e n4, sG b o e⟩) adm hG
  refine ⟨Q0, E0, z1, fun v H2 q => ?_, fun cls d H2 q => ?_⟩
  · obtain ⟨h, hA2, kp, q⟩ := z2 v H2 q
    refine ⟨h, hA2, fun ht => ?_, fun hf => ?_⟩
    · rcases q with ⟨_, b⟩ | ⟨e, _⟩
      · exact fin h H2 h.fin (old kp) fun H3 s3 => hB _ _ _ _ _ _ (.of s3) b
      · rw [e] at ht
        cases ht
    · rcases q with ⟨e, _⟩ | ⟨_, vn, b⟩
      · rw [e] at hf
        cases hf
      · refine ⟨true, vn, fun H3 s3 => ⟨fun z => (nomatch z), fun _ t ht => ?_⟩⟩
        have s4 : Same H3 (upd H3 t (.tup [.str "told", v])) := same_new ht
        have hA4 := hA2.same (s3.trans s4)
        have ne : t ≠ hd := fun e => by
          rw [e, s3 _ _ hA2.ob] at ht
          cases ht
        have tk : TK K (upd H3 t (.tup [.str "told", v])) (upd (upd H3 t (.tup [.str "told", v])) hd (.ins C dx { h with fin := .ref t }.fs)) := fun a xs q => seqT_ins hA4.ob q
        refine fin h _ (.ref t) (fun c o e => ?_) fun H5 s5 => hB _ _ _ _ _ _ (tk.trans (.of s5)) (b _ t (s3.trans s4) upd_same)
        rw [upd_ne (ne_of_none e n1)]
        exact s4 _ _ (s3 _ _ (old kp _ _ e))
  · obtain ⟨rfl, h, hA2, kp, ht, b⟩ := z3 cls d H2 q
    exact ⟨true, hx, fun _ => ⟨h, hA2, ht, fin h H2 h.fin (old kp) fun H3 s3 => hB _ _ _ _ _ _ (.of s3) b⟩, fun z => (nomatch z)⟩
end
end TW
namespace TW
open PySem PySem.Spec PyProof.Rows L2
abbrev s_take : Stmt := inClass (top 26) 6
abbrev s_reach : Stmt := inClass (top 26) 8
/-- a wish for a lock; gain: whether the work holds it behind this answer -/
def spLock (K : PySem.W.Frag) (C CS CH CN : Addr) (word : Str) (gain : V → Option Bool) : Sp := fun vs H Q E => ∃ (hd dx : Addr) (h : HS) (S : SS) (y : V) (b : Bool), vs = [.ref hd, y] ∧ HandAt K C H hd dx h ∧ ShopAt K CS H h.sh S ∧ h.asked ≤ h.ans.length ∧ h.ans.length ≤ 1000 ∧ Among K H S.locks y b ∧ h.mine.length < sizeLine ∧
  ∀ H', Same H H' → (h.halted = true → E (.ref CH) none H') ∧ (h.halted = false → b = false → EX E CN "name" y H') ∧
    (h.halted = false → b = true → ∃ nm, y = .str nm ∧
      (∀ v, h.ans[h.asked]? = some v → ∃ c, gain v = some c ∧ (c = true → Q v (upd (upd H' hd (.ins C dx { h with asked := h.asked + 1 }.fs)) h.md (.dK (putK h.mine (Sum.inr nm) (.bl true))))) ∧ (c = false → Q v (upd H' hd (.ins C dx { h with asked := h.asked + 1 }.fs)))) ∧
      ∀ t, H' t = some (.tup [.str word, y]) → h.asked = h.ans.length → E (.ref CH) none (upd H' hd (.ins C dx { h with pend := .ref t, halted := true }.fs)))
/-- the answer of a reach, as a truth -/
def truthOf : V → Option Bool
  | .bl c => some c
  | _ => none
theorem truthOf_some {v : V} {c : Bool} (e : truthOf v = some c) : v = .bl c := by
  cases v with
  | bl d =>
    have z : d = c := Option.some.inj e
    rw [z]
  | _ => cases e
section
variable {P : Program} {w : World} {K : PySem.W.Frag} {mg : Str → Option Value} {base : Heap} {C CS CH CN CV : Addr} {n : Nat}
theorem sc_take : FnScope ["self", "lock", "answer"] ["self", "lock"] (defScope s_take) := ⟨rfl, rfl, rfl, by decide +kernel, rfl, by decide +kernel, by decide +kernel⟩
theorem ok_take {f : Addr} {fd : FuncData} (F : Fun K "take" "Hand.take" s_take f fd) (T : HTxt K C) (TS : STxt K CS) (Z : Parts P w K mg base C CH CN CV n) : FnOk P w K mg base (L2.CX P w) (n + 5) f fd ["self", "lock"] (spLock K C CS CH CN "take" (fun _ => some true)) := by
  obtain ⟨fC, GC, mC, kC⟩ := Z.c
  obtain ⟨fA, fdA, GA, mA, kA, bA⟩ := Z.a
  refine F.okX sc_take (fun vs H Q E h => ?_) (fun cdv A outer s H vs Q E hr h => ?_)
  · obtain ⟨hd, dx, h, S, y, b, rfl, _⟩ := h
    rfl
  · obtain ⟨hd, dx, h, S, y, b, rfl, hA, hS, le, few, hY, lm, kk⟩ := h
    have hu := hu_of hr
    have hr2 : Room 2 _ := hr.mono (by omega)
    refine ⟨_, pss_cons (ps_expr (pe_callR GC hr kC rfl mC (passes_call (takes_of (E := E) rfl rfl rfl rfl) fun _ _ _ _ z => z) (pa_cons (pv 0) (pa_cons (pe_fld (pe_fld (pv 0) rfl) rfl) (pa_cons (pv 1) pa_nil)))))
      (pss_cons (ps_set (i := 2) sc_take.nd rfl (.inl rfl) (pe_callS GA hr2 rfl mA kA bA (fun σ => passAt (takes_of (E := E) rfl rfl rfl rfl) σ) (pa_cons (pv 0) (pa_cons (pe_tup (pa_cons pe_str (pa_cons (pv 1) pa_nil))) pa_nil))))
      (pss_cons (ps_dput hu (pe_fld (pv 0) rfl) (pv 1) pe_bl rfl)
      (pss_one (ps_ret (pv 2))))), ?_⟩
    refine ⟨_, rfl, _, rfl, hd, C, dx, _, _, rfl, hA.ob, T.cl, T.shop, hF_get1, h.sh, CS, S.dx, _, _, rfl, hS.ob, TS.cl, TS.locks, sF_get2, _, rfl, [.ref hd, .ref S.lt, y], [], rfl, rfl, by show 0 ≤ sizeLine; rw [sizeLine_eq]; decide, fun p hp => ?_⟩
    have e1 := same_new (o := .tup []) hp
    refine ⟨hd, dx, p, h, .ref S.lt, y, S.locks, b, [], [], rfl, upd_same, rfl, by show 0 ≤ 1000; decide, hA.same e1, .inr ⟨S.lt, rfl, seqT_same e1 hS.l⟩, hY.same e1, fun i r c h1 h2 => (nomatch h1), (kk _ e1).1, (kk _ e1).2.1, fun nh hb H' e => ⟨fun i r h1 => (nomatch h1), fun good => ?_⟩⟩
    have e2 := e1.trans e
    refine ⟨_, rfl, _, rfl, by show 2 ≤ sizeLine; rw [sizeLine_eq]; decide, fun t ht => ?_⟩
    have e3 := e2.trans (same_new (o := .tup [.str "take", y]) ht)
    obtain ⟨nm, rfl, q1, q2⟩ := (kk _ e3).2.2 nh hb
    have hA3 := hA.same e3
    refine ⟨hd, dx, h, .ref t, rfl, hA3, le, few, fun v hv => ?_, q2 t upd_same⟩
    obtain ⟨c, ec, r1, r2⟩ := q1 v hv
    obtain rfl := (Option.some.inj ec).symm
    have hA4 := hA3.set (h' := { h with asked := h.asked + 1 }) ⟨rfl, rfl, rfl, rfl, rfl, rfl⟩
    exact ⟨_, rfl, hd, C, dx, _, _, rfl, hA4.ob, T.cl, T.mine, hF_get4, _, rfl, h.md, _, rfl, DPut.k (k := Sum.inr nm) hA4.m lm, _, rfl, r1 rfl⟩
theorem sc_reach : FnScope ["self", "lock", "answer"] ["self", "lock"] (defScope s_reach) := ⟨rfl, rfl, rfl, by decide +kernel, rfl, by decide +kernel, by decide +kernel⟩
theorem ok_reach {f : Addr} {fd : FuncData} (F : Fun K "reach" "Hand.reach" s_reach f fd) (T : HTxt K C) (TS : STxt K CS) (Z : Parts P w K mg base C CH CN CV n) : FnOk P w K mg base (L2.CX P w) (n + 5) f fd ["self", "lock"] (spLock K C CS CH CN "reach" truthOf) := by
  obtain ⟨fC, GC, mC, kC⟩ := Z.c
  obtain ⟨fA, fdA, GA, mA, kA, bA⟩ := Z.a
  refine F.okX sc_reach (fun vs H Q E h => ?_) (fun cdv A outer s H vs Q E hr h => ?_)
  · obtain ⟨hd, dx, h, S, y, b, rfl, _⟩ := h
    rfl
  · obtain ⟨hd, dx, h, S, y, b, rfl, hA, hS, le, few, hY, lm, kk⟩ := h
    have hu := hu_of hr
    have hr2 : Room 2 _ := hr.mono (by omega)
    refine ⟨_, pss_cons (ps_expr (pe_callR GC hr kC rfl mC (passes_call (takes_of (E := E) rfl rfl rfl rfl) fun _ _ _ _ z => z) (pa_cons (pv 0) (pa_cons (pe_fld (pe_fld (pv 0) rfl) rfl) (pa_cons (pv 1) pa_nil)))))
      (pss_cons (ps_set (i := 2) sc_reach.nd rfl (.inl rfl) (pe_callS GA hr2 rfl mA kA bA (fun σ => passAt (takes_of (E := E) rfl rfl rfl rfl) σ) (pa_cons (pv 0) (pa_cons (pe_tup (pa_cons pe_str (pa_cons (pv 1) pa_nil))) pa_nil))))
      (pss_cons (ps_if (pt_val (pv 2)) (pss_one (ps_dput hu (pe_fld (pv 0) rfl) (pv 1) pe_bl rfl)) pss_nil)
      (pss_one (ps_ret (pv 2))))), ?_⟩
    refine ⟨_, rfl, _, rfl, hd, C, dx, _, _, rfl, hA.ob, T.cl, T.shop, hF_get1, h.sh, CS, S.dx, _, _, rfl, hS.ob, TS.cl, TS.locks, sF_get2, _, rfl, [.ref hd, .ref S.lt, y], [], rfl, rfl, by show 0 ≤ sizeLine; rw [sizeLine_eq]; decide, fun p hp => ?_⟩
    have e1 := same_new (o := .tup []) hp
    refine ⟨hd, dx, p, h, .ref S.lt, y, S.locks, b, [], [], rfl, upd_same, rfl, by show 0 ≤ 1000; decide, hA.same e1, .inr ⟨S.lt, rfl, seqT_same e1 hS.l⟩, hY.same e1, fun i r c h1 h2 => (nomatch h1), (kk _ e1).1, (kk _ e1).2.1, fun nh hb H' e => ⟨fun i r h1 => (nomatch h1), fun good => ?_⟩⟩
    have e2 := e1.trans e
    refine ⟨_, rfl, _, rfl, by show 2 ≤ sizeLine; rw [sizeLine_eq]; decide, fun t ht => ?_⟩
    have e3 := e2.trans (same_new (o := .tup [.str "reach", y]) ht)
    obtain ⟨nm, rfl, q1, q2⟩ := (kk _ e3).2.2 nh hb
    have hA3 := hA.same e3
    refine ⟨hd, dx, h, .ref t, rfl, hA3, le, few, fun v hv => ?_, q2 t upd_same⟩
    obtain ⟨c, ec, r1, r2⟩ := q1 v hv
    obtain rfl := truthOf_some ec
    have hA4 := hA3.set (h' := { h with asked := h.asked + 1 }) ⟨rfl, rfl, rfl, rfl, rfl, rfl⟩
    refine ⟨_, rfl, _, rfl, ?_⟩
    cases c with
    | true =>
      refine iteT ?_
      exact ⟨_, rfl, hd, C, dx, _, _, rfl, hA4.ob, T.cl, T.mine, hF_get4, _, rfl, h.md, _, rfl, DPut.k (k := Sum.inr nm) hA4.m lm, _, rfl, r1 rfl⟩
    | false =>
      refine iteF ?_
      exact ⟨_, rfl, r2 rfl⟩
end
end TW
namespace TW
open PySem PySem.Spec PyProof.Rows L2
abbrev s_give : Stmt := inClass (top 26) 7
/-- giving a lock back: held, whether the work holds it -/
def spGive (K : PySem.W.Frag) (C CS CH CN CL : Addr) : Sp := fun vs H Q E => ∃ (hd dx : Addr) (h : HS) (S : SS) (y : V) (b : Bool), vs = [.ref hd, y] ∧ HandAt K C H hd dx h ∧ ShopAt K CS H h.sh S ∧ h.asked ≤ h.ans.length ∧ h.ans.length ≤ 1000 ∧ Among K H S.locks y b ∧ h.mine.length < sizeLine ∧
  ∀ H', Same H H' → (h.halted = true → E (.ref CH) none H') ∧ (h.halted = false → b = false → EX E CN "name" y H') ∧
    (h.halted = false → b = true → ∃ nm c, y = .str nm ∧ (valV h.mine (Sum.inr nm)).getD (.bl false) = .bl c ∧ (c = false → EX E CL "lock" y H') ∧ (c = true →
      (∀ v, h.ans[h.asked]? = some v → Q v (upd (upd H' hd (.ins C dx { h with asked := h.asked + 1 }.fs)) h.md (.dK (putK h.mine (Sum.inr nm) (.bl false))))) ∧
      ∀ t, H' t = some (.tup [.str "give", y]) → h.asked = h.ans.length → E (.ref CH) none (upd H' hd (.ins C dx { h with pend := .ref t, halted := true }.fs))))
section
variable {P : Program} {w : World} {K : PySem.W.Frag} {mg : Str → Option Value} {base : Heap} {C CS CH CN CV CL : Addr} {n : Nat}
theorem sc_give : FnScope ["self", "lock", "answer"] ["self", "lock"] (defScope s_give) := ⟨rfl, rfl, rfl, by decide +kernel, rfl, by decide +kernel, by decide +kernel⟩
theorem ok_give {f : Addr} {fd : FuncData} (F : Fun K "give" "Hand.give" s_give f fd) (T : HTxt K C) (TS : STxt K CS) (Z : Parts P w K mg base C CH CN CV n) (ZL : Err1 P w K mg base "NotHeld" "lock" CL) : FnOk P w K mg base (L2.CX P w) (n + 5) f fd ["self", "lock"] (spGive K C CS CH CN CL) := by
  obtain ⟨fC, GC, mC, kC⟩ := Z.c
  obtain ⟨fA, fdA, GA, mA, kA, bA⟩ := Z.a
  obtain ⟨fI, fdI, z, g⟩ := ZL.ex
  refine F.okX sc_give (fun vs H Q E h => ?_) (fun cdv A outer s H vs Q E hr h => ?_)
  · obtain ⟨hd, dx, h, S, y, b, rfl, _⟩ := h
    rfl
  · obtain ⟨hd, dx, h, S, y, b, rfl, hA, hS, le, few, hY, lm, kk⟩ := h
    have hu := hu_of hr
    have hr2 : Room 2 _ := hr.mono (by omega)
    refine ⟨_, pss_cons (ps_expr (pe_callR GC hr kC rfl mC (passes_call (takes_of (E := E) rfl rfl rfl rfl) fun _ _ _ _ z => z) (pa_cons (pv 0) (pa_cons (pe_fld (pe_fld (pv 0) rfl) rfl) (pa_cons (pv 1) pa_nil)))))
      (pss_cons (ps_if (pt_not (pt_val (pe_dget2 hu (pe_fld (pv 0) rfl) (pv 1) pe_bl ⟨rfl, rfl, rfl, rfl⟩))) (pss_one (ps_raise rfl (takes_of (E := E) rfl rfl rfl rfl) (pmk_err z g hr2 ZL.m (pa_cons (pv 1) pa_nil)))) pss_nil)
      (pss_cons (ps_set (i := 2) sc_give.nd rfl (.inl rfl) (pe_callS GA hr2 rfl mA kA bA (fun σ => passAt (takes_of (E := E) rfl rfl rfl rfl) σ) (pa_cons (pv 0) (pa_cons (pe_tup (pa_cons pe_str (pa_cons (pv 1) pa_nil))) pa_nil))))
      (pss_cons (ps_dput hu (pe_fld (pv 0) rfl) (pv 1) pe_bl rfl)
      (pss_one (ps_ret (pv 2)))))), ?_⟩
    refine ⟨_, rfl, _, rfl, hd, C, dx, _, _, rfl, hA.ob, T.cl, T.shop, hF_get1, h.sh, CS, S.dx, _, _, rfl, hS.ob, TS.cl, TS.locks, sF_get2, _, rfl, [.ref hd, .ref S.lt, y], [], rfl, rfl, by show 0 ≤ sizeLine; rw [sizeLine_eq]; decide, fun p hp => ?_⟩
    have e1 := same_new (o := .tup []) hp
    refine ⟨hd, dx, p, h, .ref S.lt, y, S.locks, b, [], [], rfl, upd_same, rfl, by show 0 ≤ 1000; decide, hA.same e1, .inr ⟨S.lt, rfl, seqT_same e1 hS.l⟩, hY.same e1, fun i r c h1 h2 => (nomatch h1), (kk _ e1).1, (kk _ e1).2.1, fun nh hb H' e => ⟨fun i r h1 => (nomatch h1), fun good => ?_⟩⟩
    have e2 := e1.trans e
    have hA2 := hA.same e2
    obtain ⟨nm, c, ey, ec, f1, f2⟩ := (kk _ e2).2.2 nh hb
    subst ey
    refine ⟨_, rfl, hd, C, dx, _, _, rfl, hA2.ob, T.cl, T.mine, hF_get4, h.md, rfl, .inl ⟨_, .inl hA2.m⟩, _, rfl, _, DGet.k (k := Sum.inr nm) hA2.m, c, ec, ?_⟩
    cases c with
    | false => exact iteT ⟨_, rfl, _, rfl, f1 rfl⟩
    | true =>
      refine iteF ?_
      refine ⟨_, rfl, _, rfl, by show 2 ≤ sizeLine; rw [sizeLine_eq]; decide, fun t ht => ?_⟩
      have e3 := e2.trans (same_new (o := .tup [.str "give", .str nm]) ht)
      obtain ⟨nm2, c2, ey2, ec2, _, f3⟩ := (kk _ e3).2.2 nh hb
      obtain rfl := V.str.inj ey2
      obtain rfl : c2 = true := V.bl.inj (ec2.symm.trans ec)
      obtain ⟨q1, q2⟩ := f3 rfl
      have hA3 := hA.same e3
      refine ⟨hd, dx, h, .ref t, rfl, hA3, le, few, fun v hv => ?_, q2 t upd_same⟩
      have hA4 := hA3.set (h' := { h with asked := h.asked + 1 }) ⟨rfl, rfl, rfl, rfl, rfl, rfl⟩
      exact ⟨_, rfl, hd, C, dx, _, _, rfl, hA4.ob, T.cl, T.mine, hF_get4, _, rfl, h.md, _, rfl, DPut.k (k := Sum.inr nm) hA4.m lm, _, rfl, q1 v hv⟩
end
end TW
namespace TW
open PySem PySem.Spec PyProof.Rows L2
abbrev sCkW : Stmt := top 57
abbrev sCkL : Stmt := top 60
abbrev sCopied : Stmt := top 61
def spCkW (K : PySem.W.Frag) (CB : Addr) (fld : Str) : Sp := fun vs H Q E => ∃ (a : Addr) (ws : List V), vs = [.ref a] ∧ SqT K H a ws ∧ ((1 ≤ ws.length ∧ ws.length ≤ 4) → Q .non H) ∧ (¬ (1 ≤ ws.length ∧ ws.length ≤ 4) → EX E CB fld (.int (ws.length : Nat)) H)
def spCkL (K : PySem.W.Frag) (CB : Addr) (fld : Str) : Sp := fun vs H Q E => ∃ (x : V) (t : Int) (b : Bool), vs = [x, .int t] ∧ Whl K H x b ∧ (b = false → EX E CB fld x H) ∧ (b = true → ∃ i : Int, x = .int i ∧ ((1 ≤ i ∧ i ≤ t) → Q .non H) ∧ (¬ (1 ≤ i ∧ i ≤ t) → EX E CB fld x H))
def spCopied : Sp := fun vs H Q _ => (vs = [.non] ∧ ∀ d, H d = none → Q (.ref d) (upd H d (.dK []))) ∨ ∃ a kvs, vs = [.ref a] ∧ Rd H a (.dK kvs) ∧ ∀ d, H d = none → Q (.ref d) (upd H d (.dK kvs))
section
variable {P : Program} {w : World} {K : PySem.W.Frag} {mg : Str → Option Value} {base : Heap} {CB : Addr} {n : Nat} {u : Value}
theorem scCkW : FnScope ["works"] ["works"] (defScope sCkW) := ⟨rfl, rfl, rfl, by decide +kernel, rfl, by decide +kernel, by decide +kernel⟩
theorem ok_ckW {f : Addr} {fd : FuncData} (F : Fun K "check_works" "check_works" sCkW f fd) (B : Blt mg) (mM : mg "MOST_WORKS" = some u) (ru : RelV (.int 4) u) (Z : Err1 P w K mg base "BadWorks" "count" CB) : FnOk P w K mg base (L2.CX P w) 3 f fd ["works"] (spCkW K CB "count") := by
  obtain ⟨fI, fdI, z, g⟩ := Z.ex
  refine F.okX scCkW (fun vs H Q E h => ?_) (fun cdv A outer s H vs Q E hr h => ?_)
  · obtain ⟨a, ws, rfl, _⟩ := h
    rfl
  · obtain ⟨a, ws, rfl, ha, k1, k2⟩ := h
    have hr2 : Room 2 _ := hr.mono (by omega)
    refine ⟨_, pss_one (ps_if (pt_not (pt_chain op_le op_le pe_int (pe_callB call_len_seq (by rfl) B.len PySem.boot_len (pa_cons (pv 0) pa_nil)) (pe_glob (v := .int 4) rfl mM ru))) (pss_one (ps_raise rfl (takes_of (E := E) rfl rfl rfl rfl) (pmk_err z g hr2 Z.m (pa_cons (pe_callB call_len_seq (by rfl) B.len PySem.boot_len (pa_cons (pv 0) pa_nil)) pa_nil)))) pss_nil), ?_⟩
    refine ⟨_, rfl, a, _, rfl, .inr ha, _, _, rfl, rfl, _, rfl, ?_⟩
    by_cases c1 : (1 : Int) ≤ (ws.length : Nat)
    · rw [decide_eq_true c1]
      refine iteT ?_
      refine ⟨_, _, rfl, rfl, _, rfl, ?_⟩
      by_cases c2 : ((ws.length : Nat) : Int) ≤ 4
      · rw [decide_eq_true c2]
        exact iteF (k1 ⟨by omega, by omega⟩)
      · rw [decide_eq_false c2]
        exact iteT ⟨_, rfl, a, _, rfl, .inr ha, _, rfl, k2 (by omega)⟩
    · rw [decide_eq_false c1]
      exact ⟨_, rfl, iteT ⟨_, rfl, a, _, rfl, .inr ha, _, rfl, k2 (by omega)⟩⟩
theorem scCkL : FnScope ["limit", "top"] ["limit", "top"] (defScope sCkL) := ⟨rfl, rfl, rfl, by decide +kernel, rfl, by decide +kernel, by decide +kernel⟩
theorem ok_ckL {f fW : Addr} {fd fdW : FuncData} (F : Fun K "check_limit" "check_limit" sCkL f fd) (G : FnOk P w K mg base CX0 1 fW fdW ["given"] (spWhole K)) (mG : mg "is_whole" = some (.ref fW)) (kG : PySem.W.keepIn K (.ref fW) = true) (bG : Binds K fdW ["given"] []) (Z : Err1 P w K mg base "BadLimit" "limit" CB) : FnOk P w K mg base (L2.CX P w) 3 f fd ["limit", "top"] (spCkL K CB "limit") := by
  obtain ⟨fI, fdI, z, g⟩ := Z.ex
  refine F.okX scCkL (fun vs H Q E h => ?_) (fun cdv A outer s H vs Q E hr h => ?_)
  · obtain ⟨x, t, b, rfl, _⟩ := h
    rfl
  · obtain ⟨x, t, b, rfl, hW, k1, k2⟩ := h
    have hr1 : Room 1 _ := hr.mono (by omega)
    have hr2 : Room 2 _ := hr.mono (by omega)
    refine ⟨_, pss_one (ps_if (PW.pt (pw_or (pt_not (pt_val (pe_call G hr1 rfl mG kG bG .nil pass0 (pa_cons (pv 0) pa_nil)))) (pw_or1 (pt_not (pt_chain op_le op_le pe_int (pv 0) (pv 1))))))
        (pss_one (ps_raise rfl (takes_of (E := E) rfl rfl rfl rfl) (pmk_err z g hr2 Z.m (pa_cons (pv 0) pa_nil)))) pss_nil), ?_⟩
    refine ⟨_, rfl, x, b, rfl, hW, b, rfl, ?_⟩
    cases b with
    | false => exact iteT (iteT ⟨_, rfl, _, rfl, k1 rfl⟩)
    | true =>
      obtain ⟨i, rfl, q1, q2⟩ := k2 rfl
      refine iteF ?_
      refine ⟨_, rfl, _, _, rfl, rfl, _, rfl, ?_⟩
      by_cases c1 : 1 ≤ i
      · rw [decide_eq_true c1]
        refine iteT ?_
        refine ⟨_, rfl, _, _, rfl, rfl, _, rfl, ?_⟩
        by_cases c2 : i ≤ t
        · rw [decide_eq_true c2]
          exact iteF (q1 ⟨c1, c2⟩)
        · rw [decide_eq_false c2]
          exact iteT ⟨_, rfl, _, rfl, q2 (fun z => c2 z.2)⟩
      · rw [decide_eq_false c1]
        exact ⟨_, rfl, iteT ⟨_, rfl, _, rfl, q2 (fun z => c1 z.1)⟩⟩
theorem scCopied : FnScope ["table"] ["table"] (defScope sCopied) := ⟨rfl, rfl, rfl, by decide +kernel, rfl, by decide +kernel, by decide +kernel⟩
theorem ok_copied {f : Addr} {fd : FuncData} (F : Fun K "copied" "copied" sCopied f fd) (B : Blt mg) : FnOk P w K mg base CX0 1 f fd ["table"] spCopied := by
  refine F.ok scCopied (fun vs H Q E h => ?_) (fun cdv A outer s H vs Q E hr h => ?_)
  · rcases h with ⟨rfl, _⟩ | ⟨a, kvs, rfl, _⟩ <;> rfl
  · refine ⟨_, pss_cons (ps_if (pt_cmpR op_isN (pv 0) pe_non (nomark _)) (pss_one (ps_ret pe_dnewK)) pss_nil) (pss_one (ps_ret (pe_callTy call_dictD (by rfl) B.dict (by decide +kernel) (pa_cons (pv 0) pa_nil)))), ?_⟩
    rcases h with ⟨rfl, k⟩ | ⟨a, kvs, rfl, hd, k⟩
    · refine ⟨_, rfl, rfl, _, rfl, ?_⟩
      exact iteT k
    · refine ⟨_, rfl, rfl, _, rfl, ?_⟩
      exact iteF ⟨_, rfl, a, kvs, rfl, hd, k⟩
abbrev sCkS : Stmt := top 59
/-- a belt's size: None, or a number from 1 -/
def spCkS (K : PySem.W.Frag) (CB : Addr) (fld : Str) : Sp := fun vs H Q E => ∃ x : V, vs = [x] ∧ ((x = .non ∧ Q .non H) ∨ (x ≠ .non ∧ ∃ b, Whl K H x b ∧ (b = false → EX E CB fld x H) ∧ (b = true → ∃ i : Int, x = .int i ∧ (1 ≤ i → Q .non H) ∧ (i < 1 → EX E CB fld x H))))
theorem scCkS : FnScope ["size"] ["size"] (defScope sCkS) := ⟨rfl, rfl, rfl, by decide +kernel, rfl, by decide +kernel, by decide +kernel⟩
theorem ok_ckS {f fW : Addr} {fd fdW : FuncData} (F : Fun K "check_size" "check_size" sCkS f fd) (G : FnOk P w K mg base CX0 1 fW fdW ["given"] (spWhole K)) (mG : mg "is_whole" = some (.ref fW)) (kG : PySem.W.keepIn K (.ref fW) = true) (bG : Binds K fdW ["given"] []) (Z : Err1 P w K mg base "BadSize" "size" CB) : FnOk P w K mg base (L2.CX P w) 3 f fd ["size"] (spCkS K CB "size") := by
  obtain ⟨fI, fdI, z, g⟩ := Z.ex
  refine F.okX scCkS (fun vs H Q E h => ?_) (fun cdv A outer s H vs Q E hr h => ?_)
  · obtain ⟨x, rfl, _⟩ := h
    rfl
  · obtain ⟨x, rfl, h⟩ := h
    have hr1 : Room 1 _ := hr.mono (by omega)
    have hr2 : Room 2 _ := hr.mono (by omega)
    refine ⟨_, pss_cons (ps_if (pt_cmpR op_isN (pv 0) pe_non (nomark _)) (pss_one ps_retN) pss_nil)
      (pss_one (ps_if (PW.pt (pw_or (pt_not (pt_val (pe_call G hr1 rfl mG kG bG .nil pass0 (pa_cons (pv 0) pa_nil)))) (pw_or1 (pt_cmpR op_lt (pv 0) pe_int (nomark _)))))
        (pss_one (ps_raise rfl (takes_of (E := E) rfl rfl rfl rfl) (pmk_err z g hr2 Z.m (pa_cons (pv 0) pa_nil)))) pss_nil)), ?_⟩
    rcases h with ⟨rfl, k⟩ | ⟨hx, b, hW, k1, k2⟩
    · refine ⟨_, rfl, rfl, _, rfl, ?_⟩
      exact iteT k
    · refine ⟨_, rfl, rfl, _, rfl, ?_⟩
      rw [decide_eq_false hx]
      refine iteF ?_
      refine ⟨_, rfl, x, b, rfl, hW, b, rfl, ?_⟩
      cases b with
      | false => exact iteT (iteT ⟨_, rfl, _, rfl, k1 rfl⟩)
      | true =>
        obtain ⟨i, rfl, q1, q2⟩ := k2 rfl
        refine iteF ?_
        refine ⟨_, rfl, _, _, rfl, rfl, _, rfl, ?_⟩
        by_cases c : i < 1
        · rw [decide_eq_true c]
          exact iteT ⟨_, rfl, _, rfl, q2 c⟩
        · rw [decide_eq_false c]
          exact iteF (q1 (by omega))
end
end TW
namespace TW
open PySem PySem.Spec PyProof.Rows L2
abbrev sWord : Stmt := top 16
abbrev sNamesD : Stmt := top 58
/-- whether a sign is a small letter -/
def isL (c : Nat) : Bool := !decide (([c] : List Nat) < [97]) && !decide (([122] : List Nat) < [c])
/-- whether a text is a word -/
def isW (z : Str) : Bool := decide (1 ≤ z.length) && (decide (z.length ≤ 8) && z.cps.toList.all isL)
def Wd (K : PySem.W.Frag) (H : Hp) (x : V) (b : Bool) : Prop := (∃ z, x = .str z ∧ z.length ≤ 1000 ∧ b = isW z) ∨ (b = false ∧ ∃ T, TyX K H x (.type T) ∧ kitB T "str" = some false)
def spWord (K : PySem.W.Frag) : Sp := fun vs H Q _ => ∃ (x : V) (b : Bool), vs = [x] ∧ Wd K H x b ∧ ∀ H', Same H H' → Q (.bl b) H'
theorem sign_a : (Str.ofString "a").cps.toList = [97] := by decide +kernel
theorem sign_z : (V.str (Str.ofString "z")) = V.str ⟨#[122]⟩ := by decide +kernel
section
variable {P : Program} {w : World} {K : PySem.W.Frag} {mg : Str → Option Value} {base : Heap} {u : Value}
theorem scWord : FnScope ["given", "letter"] ["given"] (defScope sWord) := ⟨rfl, rfl, rfl, by decide +kernel, rfl, by decide +kernel, by decide +kernel⟩
theorem ok_word {f : Addr} {fd : FuncData} (F : Fun K "is_word" "is_word" sWord f fd) (B : Blt mg) (mL : mg "LONGEST_WORD" = some u) (ru : RelV (.int 8) u) : FnOk P w K mg base CX0 1 f fd ["given"] (spWord K) := by
  refine F.ok scWord (fun vs H Q E h => ?_) (fun cdv A outer s H vs Q E hr h => ?_)
  · obtain ⟨x, b, rfl, _⟩ := h
    rfl
  · obtain ⟨x, b, rfl, hW, kQ⟩ := h
    refine ⟨_, pss_cons (ps_if (PW.pt (pw_or (pt_not (pt_val (pe_callB call_isi (by rfl) B.isi (by decide +kernel) (pa_cons (pv 0) (pa_cons (pe_bltn (v := .ty "str") (by rfl) B.str (by decide +kernel) rfl) pa_nil)))))
          (pw_or1 (pt_not (pt_chain op_le op_le pe_int (pe_callB call_len (by rfl) B.len PySem.boot_len (pa_cons (pv 0) pa_nil)) (pe_glob (v := .int 8) rfl mL ru))))))
        (pss_one (ps_ret pe_bl)) pss_nil)
      (pss_one (ps_ret (pe_callB (cr_all rfl) (by rfl) B.all (by decide +kernel) (pa_cons
        (pe_lc (own := [("letter", 1)]) (g := gName 1) rfl scWord.nd (pi_str (pv 0)) (blkOk_by (N := ["given", "letter"]) (sc := defScope sWord) (by decide +kernel))
          (fun _ _ _ _ _ => pg_name (i := 1) scWord.nd rfl (Or.inl rfl)) (fun _ _ _ _ _ => pts_nil) (fun _ _ _ _ _ => pe_chain op_le_str op_le_str pe_str (pv 1) pe_str)) pa_nil)))), ?_⟩
    rcases hW with ⟨z, rfl, few, rfl⟩ | ⟨rfl, T, ty, e1⟩
    · refine ⟨_, rfl, _, _, _, _, _, rfl, .ty _, .base (.str z), kit_ty (r := true) (by decide +kernel), _, rfl, ?_⟩
      refine iteF ?_
      refine ⟨_, rfl, .str z, z.length, rfl, ⟨Nat.le_trans few (Nat.le_of_lt (small_sz (by decide))), rfl⟩, _, _, rfl, rfl, _, rfl, ?_⟩
      by_cases c1 : (1 : Int) ≤ (z.length : Nat)
      · rw [decide_eq_true c1]
        refine iteT ?_
        refine ⟨_, _, rfl, rfl, _, rfl, ?_⟩
        by_cases c2 : ((z.length : Nat) : Int) ≤ 8
        · rw [decide_eq_true c2]
          refine iteF ?_
          refine ⟨_, rfl, z, rfl, fun D hD => ?_⟩
          refine lc_it walk_str (fun i H' => Same H H' ∧ H' D = some (.lst ((z.cps.toList.take i).map fun c => V.bl (isL c)))) ⟨same_new hD, upd_same⟩ (fun _ _ _ _ => trivial) ?_ ?_
          · rintro i x H' H'' hi ⟨zz, hd⟩ ⟨rfl, c, hc, rfl⟩
            have hc2 : z.cps.toList[i]? = some c := by rw [Array.getElem?_toList]; exact hc
            refine ⟨rfl, ?_⟩
            unfold tYes
            dsimp only
            refine iteT ?_
            have fin : ∀ b, b = isL c → ∃ acc, H'' D = some (.lst acc) ∧ acc.length < sizeLine ∧ (Same H (upd H'' D (.lst (acc ++ [V.bl b]))) ∧ (upd H'' D (.lst (acc ++ [V.bl b]))) D = some (.lst ((z.cps.toList.take (i + 1)).map fun c => V.bl (isL c)))) := by
              rintro b rfl
              refine ⟨_, hd, ?_, fun q o e => ?_, ?_⟩
              · rw [List.length_map, List.length_take]
                have f2 : z.cps.toList.length ≤ 1000 := few
                exact Nat.lt_of_le_of_lt (Nat.min_le_right _ _) (Nat.lt_of_lt_of_le (Nat.lt_succ_of_le f2) (small_sz (n := 1001) (by decide)))
              · rw [upd_ne (ne_of_none e hD)]
                exact zz q o e
              · rw [upd_same, List.take_add_one, hc2, List.map_append]
                rfl
            refine ⟨_, rfl, _, _, rfl, rfl, _, rfl, ?_⟩
            rw [sign_a, sign_z]
            refine ite2 (fun k1 => ?_) (fun k1 => ?_)
            · have i1 : (!decide (([c] : List Nat) < [97])) = true := k1
              refine ⟨_, _, rfl, rfl, ?_⟩
              refine fin _ ?_
              unfold isL
              rw [i1, Bool.true_and]
            · have i1 : (!decide (([c] : List Nat) < [97])) = false := Bool.not_eq_true _ ▸ k1
              refine fin _ ?_
              unfold isL
              rw [i1, Bool.false_and]
          · rintro H' ⟨zz, hd⟩
            rw [show z.cps.toList.take z.cps.size = z.cps.toList from List.take_length] at hd
            refine ⟨D, z.cps.toList.map isL, rfl, SqL.of (by rw [hd, List.map_map]; rfl), ?_⟩
            have e : isW z = (z.cps.toList.map isL).all id := by
              unfold isW
              rw [decide_eq_true (p := 1 ≤ z.length) (by omega), decide_eq_true (p := z.length ≤ 8) (by omega), List.all_map]
              rfl
            rw [e] at kQ
            exact kQ _ zz
        · rw [decide_eq_false c2]
          have e : isW z = false := by
            unfold isW
            rw [decide_eq_false (p := z.length ≤ 8) (by omega)]
            exact Bool.and_false _
          rw [e] at kQ
          exact iteT (kQ _ (Same.refl _))
      · rw [decide_eq_false c1]
        have e : isW z = false := by
          unfold isW
          rw [decide_eq_false (p := 1 ≤ z.length) (by omega)]
          rfl
        rw [e] at kQ
        exact ⟨_, rfl, iteT (kQ _ (Same.refl _))⟩
    · refine ⟨_, rfl, _, _, _, _, _, rfl, .ty _, ty, kit_ty e1, _, rfl, ?_⟩
      exact iteT (iteT (kQ _ (Same.refl _)))
end
end TW
namespace L2
open PySem PySem.Spec PyProof.Rows
section
variable {prog : Program} {w : World} {A : Around} {E : Value → Shared → Prop} {s : Shared} {T : String} {r d : Addr} {n : Nat} {P : Nat → Value → Prop} {OK : Heap → Prop}
/-- what a source of list() gives to a star -/
theorem collect_src {Q : List Value → Shared → Prop} (K : PySem.W.KdlSrc prog w T r d n P OK) (hh : A.handled = none) (hok : OK s.heap) (hn : n ≤ sizeLine)
    (hQ : ∀ h' tk acc', (∀ b o, s.heap.get? b = some o → h'.get? b = some o) → ItemsOf P acc' n → Q acc'.toList { s with heap := h', toks := tk }) : wpAny (model prog w) A (collect (.ref r)) Q E s := by
  unfold collect
  refine wpAny_bind (wpAny_runValue (codeAny_builtin F.entry_proto_collect ?_)); rw [Around.under_plainId F.plain_proto_collect _]
  show wpAny _ A.in1 (newList [] >>= fun l => again (.builtin "list.__iadd__" ⟨[l, .ref r], []⟩)) _ _ s
  refine wpAny_bind (wpAny_newObj_type ?_); refine wpAny_pure ⟨plainId_quiet F.plain_list_iadd _, codeAny_builtin F.entry_list_iadd ?_⟩; rw [Around.under_plainId F.plain_list_iadd _]
  have th := K.there _ hok
  have hS : (s.heap.push { cls := .type "list", data := .seq ([] : List Value).toArray }).get? s.heap.objs.size = some { cls := .type "list", data := .seq #[] 0 } := Heap.get?_push_size _ rfl
  have ok2 := K.keep _ (s.heap.push { cls := .type "list", data := .seq ([] : List Value).toArray }) hok fun b _ o e => Heap.get?_push_of_some _ e
  show wpAny _ A.in1 (Builtin.List.listExtendWith (.ref s.heap.objs.size) (.ref r) (.ref s.heap.objs.size)) _ _ _
  have z := PySem.W.kdl_extend (A := A) (R := fun (f : Result) (s' : Shared) => ∃ h' tk acc' c', f = .ok (.ret (.ref s.heap.objs.size)) ∧ s' = { s with heap := h', toks := tk } ∧ (∀ b o, s.heap.get? b = some o → h'.get? b = some o) ∧ h'.get? s.heap.objs.size = some { cls := .type "list", dict := none, data := .seq acc' c', slots := #[] } ∧ ItemsOf P acc' n)
    (s := { s with heap := s.heap.push { cls := .type "list", data := .seq ([] : List Value).toArray } }) K hh ok2 s.heap.objs.size (Nat.ne_of_gt th.1) (Nat.ne_of_gt th.2) (.ref s.heap.objs.size) 0 hS
    (fun h' tk acc' c' hk hS' hacc => ⟨h', tk, acc', c', rfl, rfl, fun b o e => hk b o (Nat.ne_of_lt (Heap.lt_size e)) (Heap.get?_push_of_some _ e), hS', hacc⟩) hn
  have done : ∀ (f : Result) (s' : Shared), (∃ h' tk acc' c', f = .ok (.ret (.ref s.heap.objs.size)) ∧ s' = { s with heap := h', toks := tk } ∧ (∀ b o, s.heap.get? b = some o → h'.get? b = some o) ∧ h'.get? s.heap.objs.size = some { cls := .type "list", dict := none, data := .seq acc' c', slots := #[] } ∧ ItemsOf P acc' n) →
      (match f with
      | .ok (.ret v) => wpAny (model prog w) A (match v with
          | .ref a => (do match (← load a).data with
            | .seq xs _ => pure xs.toList
            | _ => unsupported "internal:collect")
          | _ => unsupported "internal:collect") Q E s'
      | .ok _ => False
      | .error e => E e s') := by
    rintro f s' ⟨h', tk, acc', c', rfl, rfl, hk, hS', hacc⟩
    exact wpAny_bind (wpAny_load hS' (wpAny_pure (hQ h' tk acc' hk hacc)))
  refine wpAny_mono z (fun fin s' k => ?_) (fun e s' k => done _ s' k)
  cases fin with
  | done f => exact done _ s' k
  | again c' => exact ⟨k.1, codeAny_mono k.2 fun f s'' q => done f s'' q⟩
end
section
variable {X : Cx} {pins : List (Addr × Obj)} {σ : L2.St} {H : Hp} {s : Shared}
theorem star_dK {a : Addr} {kvs : List (Key × V)} {E : Value → Shared → Prop} {Q : List Value → Shared → Prop} (hc : X.calm = true) (I : Inv X pins σ H s) (h : Rd H a (.dK kvs)) (hQ : ∀ us s', Inv X pins σ H s' → Vals (kvs.map fun kv => kV kv.1) us → Q us s') : PySem.W.StarOf (model X.prog X.w) X.A E (.ref a) Q s := by
  obtain ⟨z, lo, vs, rel, dd⟩ := dk_rd I.hok h
  obtain ⟨ep, hat⟩ := dd.dictAt
  have ek : (kvs.map fun kv => kV kv.1) = vs.map fun p => kV p.1 := by
    have e := congrArg (List.map kV) rel.keys
    rw [List.map_map, List.map_map] at e
    exact e
  unfold PySem.W.StarOf notIterableAtAll
  refine wpAny_bind (wpAny_specialOf dd.typeIs PySem.F.slot_dict_iter.lookup (wpAny_pure ⟨rfl, ?_⟩))
  refine collect_src (PySem.W.kdl_dict (knd := mixKind X.prog X.w) (kvs := vs) (ep := ep) lo) (I.ok.hd hc) hat (by rw [← rel.length]; exact z) fun h' tk acc hk hacc => ?_
  refine hQ _ _ (I.kept (t' := tk) hk) ?_
  rw [ek]
  exact keys_at (by rw [Array.length_toList]; exact hacc.1) fun j v e => hacc.2 j v (by rw [← Array.getElem?_toList]; exact e)
/-- *d in a display: a dict's keys -/
def tStarD (te : TE) (t : TA) : TA := fun σ H Q => te σ H fun x H1 => ∃ p kvs, x = V.ref p ∧ Rd H1 p (.dK kvs) ∧ t σ H1 fun ys H2 => Q ((kvs.map fun kv => kV kv.1) ++ ys) H2
theorem pa_starD {e : Expr} {es : List Expr} {te : TE} {t : TA} {p : Pos} (hc : X.calm = true) (he : PE X e te) (hr : PA X es t) (hs : starEach (.Starred e p :: es) X.env = (true, eval e X.env) :: starEach es X.env := by rfl) : PA X (.Starred e p :: es) (tStarD te t) := by
  refine ⟨fun pos pins s σ H Q I h => ?_⟩
  refine PySem.W.items_star (thn (he.run pins s σ H _ I h) fun v s1 ⟨y, H1, I1, ry, a, kvs, ey, hx, q⟩ => ?_) hs
  subst ey
  obtain rfl : v = Value.ref a := ry
  exact star_dK hc I1 hx fun us s2 I2 rv => thn (hr.run pos pins s2 σ H1 _ I2 q) fun ws s3 ⟨vs, H3, I3, r3, q3⟩ => ⟨(kvs.map fun kv => kV kv.1) ++ vs, H3, I3, rv.append r3, q3⟩
end
end L2
namespace TW
open PySem PySem.Spec PyProof.Rows L2
/-- names of things, all words, none twice: nothing comes of checking them -/
def spNamesOk (K : PySem.W.Frag) : Sp := fun vs H Q _ => ∃ (a : Addr) (ns : List Str), vs = [.ref a] ∧ SqL K H a (ns.map V.str) ∧ ns.Nodup ∧ (∀ z ∈ ns, isW z = true) ∧ ns.length ≤ 64 ∧ ∀ H', Same H H' → Q .non H'
theorem isW_few {z : Str} (h : isW z = true) : z.length ≤ 1000 := by
  unfold isW at h
  have h2 := (Bool.and_eq_true_iff.mp (Bool.and_eq_true_iff.mp h).2).1
  have h3 := of_decide_eq_true h2
  omega
section
variable {P : Program} {w : World} {K : PySem.W.Frag} {mg : Str → Option Value} {base : Heap} {u : Value}
theorem scNamesD : FnScope ["names", "stood", "name"] ["names"] (defScope sNamesD) := ⟨rfl, rfl, rfl, by decide +kernel, rfl, by decide +kernel, by decide +kernel⟩
theorem ok_names {f fW : Addr} {fd fdW : FuncData} (F : Fun K "check_names" "check_names" sNamesD f fd) (mS : mg "set" = none) (G : FnOk P w K mg base CX0 1 fW fdW ["given"] (spWord K)) (mW : mg "is_word" = some (.ref fW)) (kW : PySem.W.keepIn K (.ref fW) = true) (bW : Binds K fdW ["given"] []) :
    FnOk P w K mg base CX0 2 f fd ["names"] (spNamesOk K) := by
  refine F.ok scNamesD (fun vs H Q E h => ?_) (fun cdv A outer s H vs Q E hr h => ?_)
  · obtain ⟨a, ns, rfl, _⟩ := h
    rfl
  · obtain ⟨a, ns, rfl, hS, nd, ww, few, k⟩ := h
    refine ⟨_, pss_cons (ps_set (i := 1) scNamesD.nd rfl (.inl rfl) (pe_callTy0 cr_set0K (by rfl) mS (by decide +kernel)))
      (pss_one (ps_for PassesOwn.never rfl (pi_list (pv 0)) (pg_name (i := 2) scNamesD.nd rfl (Or.inl rfl))
        (pss_cons (ps_if (PW.pt (pw_or (pt_not (pt_val (pe_call G hr rfl mW kW bW .nil pass0 (pa_cons (pv 2) pa_nil)))) (pw_or1 (pt_cmpR or_sinK (pv 2) (pv 1) (by rfl))))) (pss_one ps_never) pss_nil)
          (pss_one (ps_expr (pe_saddK (pv 1) (pa_cons (pv 2) pa_nil))))))), ?_⟩
    refine ⟨rfl, fun p hp => ?_⟩
    have s1 : Same H (upd H p (SetK P w p (fun _ => false) 0)) := same_new hp
    refine ⟨_, rfl, a, rfl, ⟨_, s1.seq hS⟩, ?_⟩
    refine for_list (K := K) (a := a) (xs := ns.map V.str) (fun j σ H' => ∃ (q : Option V) (S : Key → Bool), σ = [some (.ref a), some (.ref p), q] ∧ Same H H' ∧ H' p = some (SetK P w p S j) ∧ ∀ z, S (Sum.inr z) = true → z ∈ ns.take j)
      ⟨_, _, rfl, s1, upd_same, fun z e => by cases e⟩ (fun j σ H' _ ⟨_, _, _, z, _⟩ => z.seq hS) ?_ ?_
    · rintro j x σ H4 hx ⟨q, S, rfl, s4, h4, mem⟩
      obtain ⟨z, hz, rfl⟩ : ∃ z, ns[j]? = some z ∧ x = V.str z := by
        rw [List.getElem?_map] at hx
        obtain ⟨z, h1, h2⟩ := Option.map_eq_some_iff.mp hx
        exact ⟨z, h1, h2.symm⟩
      have hj := (List.getElem?_eq_some_iff.mp hz).1
      have zw := ww z (List.mem_of_getElem? hz)
      have no : S (Sum.inr z) = false := by
        cases e : S (Sum.inr z) with
        | false => rfl
        | true =>
          obtain ⟨i, hi, e2⟩ := List.mem_iff_getElem.mp (mem z e)
          rw [List.length_take] at hi
          rw [List.getElem_take] at e2
          have lt : i < j := Nat.lt_of_lt_of_le hi (Nat.min_le_left _ _)
          exact absurd (e2.trans (List.getElem?_eq_some_iff.mp hz).2.symm) (List.pairwise_iff_getElem.mp nd i j (Nat.lt_trans lt hj) hj lt)
      refine ⟨_, rfl, .str z, true, rfl, .inl ⟨z, rfl, isW_few zw, zw.symm⟩, fun H5 s5 => ⟨_, rfl, ?_⟩⟩
      refine iteF ?_
      refine ⟨_, rfl, _, rfl, Sum.inr z, p, S, j, rfl, rfl, s5 _ _ h4, _, rfl, ?_⟩
      rw [show (if false = true then !S (Sum.inr z) else S (Sum.inr z)) = false from no]
      refine iteF ?_
      refine ⟨_, rfl, ⟨p, S, j, rfl, s5 _ _ h4⟩, _, rfl, p, Sum.inr z, S, j, rfl, rfl, s5 _ _ h4, ?_, ?_⟩
      · have lt : j + 1 ≤ 64 := Nat.le_trans hj few
        refine Nat.lt_of_le_of_lt lt ?_
        decide +kernel
      · refine ⟨_, _, rfl, fun b o e => ?_, by rw [upd_same, no]; rfl, fun y e => ?_⟩
        · rw [upd_ne (ne_of_none e hp)]
          exact s5 _ _ (s4 _ _ e)
        · rw [take_one hz]
          rcases Bool.or_eq_true_iff.mp e with e | e
          · exact List.mem_append_left _ (mem y e)
          · have q := Sum.inr.inj (of_decide_eq_true e)
            rw [q]
            exact List.mem_append_right _ (List.mem_singleton.mpr rfl)
    · rintro σ H4 ⟨q, S, rfl, s4, _⟩
      exact k _ s4
end
end TW
namespace L2
open PySem PySem.Spec PyProof.Rows
/-- tuple(x), x a list or a tuple -/
theorem call_tupU {X : Cx} : CallR X (.type "tuple") (fun xs H Q => ∃ (p : Addr) (ys : List V), xs = [.ref p] ∧ (SqL X.K H p ys ∨ SqT X.K H p ys) ∧ ∀ t G, Same H G → SqT X.K G t ys → Q (.ref t) G) := by
  intro pins s σ H xs us Q I r h
  obtain ⟨p, ys, e, h, k⟩ := h
  refine call_tuple_of pins s σ H xs us Q I r ⟨p, ys, e, ?_⟩
  rcases h with h | h
  · exact .inl ⟨h, fun l hl => k l _ (fun b u z => by rw [upd_ne (ne_of_none z hl)]; exact z) (SqT.of upd_same)⟩
  · exact .inr ⟨h, k p _ (Same.refl _) h⟩
theorem fnOk_imp {P : Program} {w : World} {K : PySem.W.Frag} {mg : Str → Option Value} {base : Heap} {CX : CXT} {k : Nat} {f : Addr} {fd : FuncData} {ps : List Str} {sp sp' : Sp} (h : ∀ vs H Q E, sp' vs H Q E → sp vs H Q E) (F : FnOk P w K mg base CX k f fd ps sp) : FnOk P w K mg base CX k f fd ps sp' :=
  ⟨fun vs H Q E z => F.len _ _ _ _ (h _ _ _ _ z), fun A outer s H args us vs Q E hr he hb hv hs => F.run A outer s H args us vs Q E hr he hb hv (h _ _ _ _ hs)⟩
end L2
namespace TW
open PySem PySem.Spec PyProof.Rows L2
def spCopU : Sp := fun vs H Q _ => ∃ (v : V) (kvs : List (Key × V)), vs = [v] ∧ ((v = .non ∧ kvs = []) ∨ ∃ a, v = .ref a ∧ Rd H a (.dK kvs)) ∧ ∀ d, H d = none → Q (.ref d) (upd H d (.dK kvs))
theorem copU (vs : List V) (H : Hp) (Q : VK) (E : XK) (h : spCopU vs H Q E) : spCopied vs H Q E := by
  obtain ⟨v, kvs, rfl, h, k⟩ := h
  rcases h with ⟨rfl, rfl⟩ | ⟨a, rfl, h⟩
  · exact .inl ⟨rfl, k⟩
  · exact .inr ⟨a, kvs, rfl, h, k⟩
abbrev sSI : Stmt := inClass (top 62) 0
/-- a value, whatever comes beside the tuples -/
def VnS (K : PySem.W.Frag) (H : Hp) (n : Nat) (v : V) : Prop := ∀ H', (∀ a xs, SqT K H a xs → SqT K H' a xs) → Vn K H' n v true
/-- a size of a belt -/
def SizeV (v : V) : Prop := v = .non ∨ ∃ i : Int, v = .int i ∧ 1 ≤ i
theorem sqT_but {K : PySem.W.Frag} {H H' : Hp} {d a : Addr} {xs : List V} {o : HO} (hd : H d = some o) (no : ∀ ys, o ≠ .tup ys) (nf : ∀ ob ys, o ≠ .frz ob (.tup ys)) (keep : ∀ b u, b ≠ d → H b = some u → H' b = some u) (h : SqT K H a xs) : SqT K H' a xs := by
  rcases h with (h | ⟨ob, h⟩) | h
  · refine .inl (.inl (keep a _ (fun e => ?_) h))
    subst e
    rw [hd] at h
    exact no xs (Option.some.inj h)
  · refine .inl (.inr ⟨ob, keep a _ (fun e => ?_) h⟩)
    subst e
    rw [hd] at h
    exact nf ob xs (Option.some.inj h)
  · exact .inr h
theorem rd_but {H H' : Hp} {d a : Addr} {kvs : List (Key × V)} {o : HO} (hd : H d = some o) (no : o ≠ .dK kvs) (nf : ∀ ob, o ≠ .frz ob (.dK kvs)) (keep : ∀ b u, b ≠ d → H b = some u → H' b = some u) (h : Rd H a (.dK kvs)) : Rd H' a (.dK kvs) := by
  rcases h with h | ⟨ob, h⟩
  · refine .inl (keep a _ (fun e => ?_) h)
    subst e
    rw [hd] at h
    exact no (Option.some.inj h)
  · refine .inr ⟨ob, keep a _ (fun e => ?_) h⟩
    subst e
    rw [hd] at h
    exact nf ob (Option.some.inj h)
theorem sqL_but {K : PySem.W.Frag} {H H' : Hp} {d a : Addr} {xs : List V} {o : HO} (hd : H d = some o) (no : ∀ ys, o ≠ .lst ys) (nf : ∀ ob ys, o ≠ .frz ob (.lst ys)) (keep : ∀ b u, b ≠ d → H b = some u → H' b = some u) (h : SqL K H a xs) : SqL K H' a xs := by
  rcases h with (h | ⟨ob, h⟩) | h
  · refine .inl (.inl (keep a _ (fun e => ?_) h))
    subst e
    rw [hd] at h
    exact no xs (Option.some.inj h)
  · refine .inl (.inr ⟨ob, keep a _ (fun e => ?_) h⟩)
    subst e
    rw [hd] at h
    exact nf ob xs (Option.some.inj h)
  · exact .inr h
/-- all but the object at d stand -/
def But (d : Addr) (H H' : Hp) : Prop := ∀ b o, b ≠ d → H b = some o → H' b = some o
theorem But.of {H H' : Hp} {d : Addr} (e : Same H H') : But d H H' := fun b o _ h => e b o h
theorem But.trans {H H' H'' : Hp} {d : Addr} (a : But d H H') (b : But d H' H'') : But d H H'' := fun c o n h => b c o n (a c o n h)
theorem But.put {H : Hp} {d : Addr} {o : HO} : But d H (upd H d o) := fun b u n h => by
  rw [upd_ne n]
  exact h
theorem whl_int {K : PySem.W.Frag} {H : Hp} {i : Int} : Whl K H (.int i) true := ⟨"int", true, false, .base (.int i), by decide +kernel, fun _ => by decide +kernel, rfl⟩
def sF4 (v0 v1 v2 v3 : V) : List (Str × V) := [("works", v0), ("cells", v1), ("locks", v2), ("belts", v3)]
theorem sF4_get0 {v0 v1 v2 v3 : V} : (sF4 v0 v1 v2 v3).lookup ("works" : Str) = some v0 := by
  unfold sF4
  rw [lookup_put, if_pos rfl]
theorem sF4_get1 {v0 v1 v2 v3 : V} : (sF4 v0 v1 v2 v3).lookup ("cells" : Str) = some v1 := by
  unfold sF4
  rw [lookup_put, if_neg sF_n1_0, lookup_put, if_pos rfl]
theorem sF4_get2 {v0 v1 v2 v3 : V} : (sF4 v0 v1 v2 v3).lookup ("locks" : Str) = some v2 := by
  unfold sF4
  rw [lookup_put, if_neg sF_n2_0, lookup_put, if_neg sF_n2_1, lookup_put, if_pos rfl]
theorem sF4_get3 {v0 v1 v2 v3 : V} : (sF4 v0 v1 v2 v3).lookup ("belts" : Str) = some v3 := by
  unfold sF4
  rw [lookup_put, if_neg sF_n3_0, lookup_put, if_neg sF_n3_1, lookup_put, if_neg sF_n3_2, lookup_put, if_pos rfl]
/-- what a shop is made of -/
structure SIn where
  ws : List V
  cs : List (Key × V)
  cN : List Str
  lN : List Str
  bs : List (Key × V)
  bN : List Str
  lo : Int
  mo : Int
/-- a shop half made -/
structure Mid (K : PySem.W.Frag) (CS : Addr) (G : Hp) (sh dx wt cd lt bd : Addr) (S : SIn) : Prop where
  ob : G sh = some (.ins CS dx (sF4 (.ref wt) (.ref cd) (.ref lt) (.ref bd)))
  w : SqT K G wt S.ws
  c : G cd = some (.dK S.cs)
  l : SqT K G lt (S.lN.map V.str)
  b : G bd = some (.dK S.bs)
theorem Mid.same {K : PySem.W.Frag} {CS : Addr} {G G' : Hp} {sh dx wt cd lt bd : Addr} {S : SIn} (e : Same G G') (M : Mid K CS G sh dx wt cd lt bd S) : Mid K CS G' sh dx wt cd lt bd S := ⟨e _ _ M.ob, seqT_same e M.w, e _ _ M.c, seqT_same e M.l, e _ _ M.b⟩
/-- what is handed in, rightly -/
structure Good (K : PySem.W.Frag) (H : Hp) (n : Nat) (S : SIn) (wv cv lv bv : V) : Prop where
  w : ∃ a, wv = .ref a ∧ (SqL K H a S.ws ∨ SqT K H a S.ws)
  w1 : 1 ≤ S.ws.length
  w4 : S.ws.length ≤ 4
  c : (cv = .non ∧ S.cs = []) ∨ ∃ a, cv = .ref a ∧ Rd H a (.dK S.cs)
  cn : S.cs.map (·.1) = S.cN.map Sum.inr
  l : ∃ a, lv = .ref a ∧ (SqL K H a (S.lN.map V.str) ∨ SqT K H a (S.lN.map V.str))
  b : (bv = .non ∧ S.bs = []) ∨ ∃ a, bv = .ref a ∧ Rd H a (.dK S.bs)
  bn : S.bs.map (·.1) = S.bN.map Sum.inr
  nd : (S.cN ++ S.lN ++ S.bN).Nodup
  ww : ∀ z ∈ S.cN ++ S.lN ++ S.bN, isW z = true
  few : (S.cN ++ S.lN ++ S.bN).length ≤ 64
  cv : ∀ kv ∈ S.cs, VnS K H n kv.2
  bz : ∀ kv ∈ S.bs, SizeV kv.2
  l1 : 1 ≤ S.lo ∧ S.lo ≤ 40
  l2 : 1 ≤ S.mo ∧ S.mo ≤ 2000
/-- the shop of them -/
def SIn.ss (S : SIn) (dx wt cd lt bd : Addr) : SS := ⟨dx, wt, S.ws, cd, S.cs, S.cN, lt, S.lN, bd, S.bs, S.bN, (S.ws.length : Nat), S.lo, S.mo⟩
/-- a shop is made: its things are copied, what stood stands -/
def spSI (K : PySem.W.Frag) (CS : Addr) (n : Nat) : Sp := fun vs H Q _ => ∃ (sh dx : Addr) (S : SIn) (wv cv lv bv : V), vs = [.ref sh, wv, cv, lv, bv, .int S.lo, .int S.mo] ∧ H sh = some (.ins CS dx []) ∧ Good K H n S wv cv lv bv ∧
  ∀ (wt cd lt bd : Addr) (G : Hp), (∀ b o, b ≠ sh → H b = some o → G b = some o) → ShopAt K CS G sh (S.ss dx wt cd lt bd) → Q .non G
theorem ins_ntup {C dx : Addr} {fs : List (Str × V)} : (∀ ys, HO.ins C dx fs ≠ .tup ys) ∧ ∀ ob ys, HO.ins C dx fs ≠ .frz ob (.tup ys) := ⟨fun _ z => (nomatch z), fun _ _ z => (nomatch z)⟩
theorem dk_ntup {kvs : List (Key × V)} : (∀ ys, HO.dK kvs ≠ .tup ys) ∧ ∀ ob ys, HO.dK kvs ≠ .frz ob (.tup ys) := ⟨fun _ z => (nomatch z), fun _ _ z => (nomatch z)⟩
section
variable {P : Program} {w : World} {K : PySem.W.Frag} {mg : Str → Option Value} {base : Heap} {CS CB1 CB2 CB3 CB4 CB5 : Addr} {n : Nat} {u1 u2 : Value}
theorem scSI : FnScope ["self", "works", "cells", "locks", "belts", "longest", "most", "value", "size"] ["self", "works", "cells", "locks", "belts", "longest", "most"] (defScope sSI) := ⟨rfl, rfl, rfl, by decide +kernel, rfl, by decide +kernel, by decide +kernel⟩
theorem ok_SI {f fC fW fN fV fS fL : Addr} {fd fdC fdW fdN fdV fdS fdL : FuncData} (F : Fun K "__init__" "Shop.__init__" sSI f fd) (B : Blt mg) (X : STxt K CS)
    (GC : FnOk P w K mg base CX0 1 fC fdC ["table"] spCopied) (mC : mg "copied" = some (.ref fC)) (kC : PySem.W.keepIn K (.ref fC) = true) (bC : Binds K fdC ["table"] [])
    (GW : FnOk P w K mg base (L2.CX P w) 3 fW fdW ["works"] (spCkW K CB1 "count")) (mW : mg "check_works" = some (.ref fW)) (kW : PySem.W.keepIn K (.ref fW) = true) (bW : Binds K fdW ["works"] [])
    (GN : FnOk P w K mg base CX0 2 fN fdN ["names"] (spNamesOk K)) (mN : mg "check_names" = some (.ref fN)) (kN : PySem.W.keepIn K (.ref fN) = true) (bN : Binds K fdN ["names"] [])
    (GV : FnOk P w K mg base (L2.CX P w) (n + 3) fV fdV ["given"] (spCkV K CB2 n)) (mV : mg "check_value" = some (.ref fV)) (kV : PySem.W.keepIn K (.ref fV) = true) (bV : Binds K fdV ["given"] [])
    (GS : FnOk P w K mg base (L2.CX P w) 3 fS fdS ["size"] (spCkS K CB3 "size")) (mS : mg "check_size" = some (.ref fS)) (kS : PySem.W.keepIn K (.ref fS) = true) (bS : Binds K fdS ["size"] [])
    (GL : FnOk P w K mg base (L2.CX P w) 3 fL fdL ["limit", "top"] (spCkL K CB4 "limit")) (mL : mg "check_limit" = some (.ref fL)) (kL : PySem.W.keepIn K (.ref fL) = true) (bL : Binds K fdL ["limit", "top"] [])
    (m1 : mg "TOP_LONGEST" = some u1) (r1 : RelV (.int 40) u1) (m2 : mg "TOP_MOST" = some u2) (r2 : RelV (.int 2000) u2) :
    FnOk P w K mg base CX0 (n + 4) f fd ["self", "works", "cells", "locks", "belts", "longest", "most"] (spSI K CS n) := by
  refine F.ok scSI (fun vs H Q E h => ?_) (fun cdv A outer s H vs Q E hr h => ?_)
  · obtain ⟨sh, dx, S, wv, cv, lv, bv, rfl, _⟩ := h
    rfl
  · obtain ⟨sh, dx, S, wv, cv, lv, bv, rfl, ho, Z, k⟩ := h
    have hr1 : Room 1 _ := hr.mono (by omega)
    have hr2 : Room 2 _ := hr.mono (by omega)
    have hr3 : Room 3 _ := hr.mono (by omega)
    have hrV : Room (n + 3) _ := hr.mono (by omega)
    refine ⟨_, pss_cons (ps_fld (pv 0) (pe_callTy call_tupU (by rfl) B.tuple (by decide +kernel) (pa_cons (pv 1) pa_nil)) rfl)
      (pss_cons (ps_fld (pv 0) (pe_call (fnOk_imp copU GC) hr1 rfl mC kC bC .nil pass0 (pa_cons (pv 2) pa_nil)) rfl)
      (pss_cons (ps_fld (pv 0) (pe_callTy call_tupU (by rfl) B.tuple (by decide +kernel) (pa_cons (pv 3) pa_nil)) rfl)
      (pss_cons (ps_fld (pv 0) (pe_call (fnOk_imp copU GC) hr1 rfl mC kC bC .nil pass0 (pa_cons (pv 4) pa_nil)) rfl)
      (pss_cons (ps_expr (pe_call GW hr3 rfl mW kW bW .nil passN (pa_cons (pe_fld (pv 0) rfl) pa_nil)))
      (pss_cons (ps_expr (pe_call GN hr2 rfl mN kN bN .nil pass0 (pa_cons (pe_lst (pa_starD rfl (pe_fld (pv 0) rfl) (StX.pa_star (pe_fld (pv 0) rfl) (pa_starD rfl (pe_fld (pv 0) rfl) pa_nil)))) pa_nil)))
      (pss_cons (ps_lock (ps_for PassesOwn.never rfl (pi_values (pe_fld (pv 0) rfl)) (pg_name (i := 7) scSI.nd rfl (Or.inl rfl)) (pss_one (ps_expr (pe_call GV hrV rfl mV kV bV .nil passN (pa_cons (pv 7) pa_nil))))))
      (pss_cons (ps_lock (ps_for PassesOwn.never rfl (pi_values (pe_fld (pv 0) rfl)) (pg_name (i := 8) scSI.nd rfl (Or.inl rfl)) (pss_one (ps_expr (pe_call GS hr3 rfl mS kS bS .nil passN (pa_cons (pv 8) pa_nil))))))
      (pss_cons (ps_expr (pe_call GL hr3 rfl mL kL bL .nil passN (pa_cons (pv 5) (pa_cons (pe_glob (v := .int 40) rfl m1 r1) pa_nil))))
      (pss_cons (ps_expr (pe_call GL hr3 rfl mL kL bL .nil passN (pa_cons (pv 6) (pa_cons (pe_glob (v := .int 2000) rfl m2 r2) pa_nil))))
      (pss_cons (ps_fld (pv 0) (pe_callB call_len_seq (by rfl) B.len PySem.boot_len (pa_cons (pe_fld (pv 0) rfl) pa_nil)) rfl)
      (pss_cons (ps_fld (pv 0) (pv 5) rfl) (pss_one (ps_fld (pv 0) (pv 6) rfl))))))))))))), ?_⟩
    obtain ⟨wa, rfl, hw⟩ := Z.w
    obtain ⟨la, rfl, hl⟩ := Z.l
    refine ⟨_, rfl, wa, S.ws, rfl, hw, fun wt G1 s1 w1 => ?_⟩
    refine ⟨_, rfl, sh, CS, dx, _, rfl, s1 _ _ ho, X.cl, X.works, (by show 0 < 1000; decide), ?_⟩
    rw [sF_make0]
    have b1 : But sh H (upd G1 sh (.ins CS dx [("works", .ref wt)])) := (But.of s1).trans .put
    have w2 : SqT K (upd G1 sh (.ins CS dx [("works", .ref wt)])) wt S.ws := sqT_but (s1 _ _ ho) ins_ntup.1 ins_ntup.2 But.put w1
    have o2 : (upd G1 sh (.ins CS dx [("works", .ref wt)])) sh = some (.ins CS dx [("works", .ref wt)]) := upd_same
    generalize upd G1 sh (.ins CS dx [("works", .ref wt)]) = A1 at b1 w2 o2 ⊢
    have c2 : (cv = .non ∧ S.cs = []) ∨ ∃ a, cv = .ref a ∧ Rd A1 a (.dK S.cs) := Z.c.imp id fun ⟨a, e, h⟩ => ⟨a, e, rd_but ho (fun z => (nomatch z)) (fun _ z => (nomatch z)) b1 h⟩
    refine ⟨_, rfl, cv, S.cs, rfl, c2, fun cd hcd => ?_⟩
    refine ⟨_, rfl, sh, CS, dx, _, rfl, (same_new hcd) _ _ o2, X.cl, X.cells, (by show 1 < 1000; decide), ?_⟩
    rw [sF_make1]
    have b2 : But sh H (upd (upd A1 cd (.dK S.cs)) sh (.ins CS dx [("works", .ref wt), ("cells", .ref cd)])) := (b1.trans (But.of (same_new hcd))).trans .put
    have w3 : SqT K (upd (upd A1 cd (.dK S.cs)) sh (.ins CS dx [("works", .ref wt), ("cells", .ref cd)])) wt S.ws := sqT_but ((same_new hcd) _ _ o2) ins_ntup.1 ins_ntup.2 But.put (seqT_same (same_new hcd) w2)
    have ne1 : cd ≠ sh := fun e => by
      rw [e, o2] at hcd
      cases hcd
    have c3 : (upd (upd A1 cd (.dK S.cs)) sh (.ins CS dx [("works", .ref wt), ("cells", .ref cd)])) cd = some (.dK S.cs) := by
      rw [upd_ne ne1]
      exact upd_same
    have o3 : (upd (upd A1 cd (.dK S.cs)) sh (.ins CS dx [("works", .ref wt), ("cells", .ref cd)])) sh = some (.ins CS dx [("works", .ref wt), ("cells", .ref cd)]) := upd_same
    generalize upd (upd A1 cd (.dK S.cs)) sh (.ins CS dx [("works", .ref wt), ("cells", .ref cd)]) = A2 at b2 w3 c3 o3 ⊢
    have hl2 : SqL K A2 la (S.lN.map V.str) ∨ SqT K A2 la (S.lN.map V.str) := hl.imp (fun h => sqL_but ho (fun _ z => (nomatch z)) (fun _ _ z => (nomatch z)) b2 h) (fun h => sqT_but ho ins_ntup.1 ins_ntup.2 b2 h)
    refine ⟨_, rfl, la, _, rfl, hl2, fun lt G3 s3 l3 => ?_⟩
    refine ⟨_, rfl, sh, CS, dx, _, rfl, s3 _ _ o3, X.cl, X.locks, (by show 2 < 1000; decide), ?_⟩
    rw [sF_make2]
    have b3 : But sh H (upd G3 sh (.ins CS dx [("works", .ref wt), ("cells", .ref cd), ("locks", .ref lt)])) := (b2.trans (But.of s3)).trans .put
    have w4 : SqT K (upd G3 sh (.ins CS dx [("works", .ref wt), ("cells", .ref cd), ("locks", .ref lt)])) wt S.ws := sqT_but (s3 _ _ o3) ins_ntup.1 ins_ntup.2 But.put (seqT_same s3 w3)
    have l4 : SqT K (upd G3 sh (.ins CS dx [("works", .ref wt), ("cells", .ref cd), ("locks", .ref lt)])) lt (S.lN.map V.str) := sqT_but (s3 _ _ o3) ins_ntup.1 ins_ntup.2 But.put l3
    have c4 : (upd G3 sh (.ins CS dx [("works", .ref wt), ("cells", .ref cd), ("locks", .ref lt)])) cd = some (.dK S.cs) := by
      rw [upd_ne ne1]
      exact s3 _ _ c3
    have o4 : (upd G3 sh (.ins CS dx [("works", .ref wt), ("cells", .ref cd), ("locks", .ref lt)])) sh = some (.ins CS dx [("works", .ref wt), ("cells", .ref cd), ("locks", .ref lt)]) := upd_same
    generalize upd G3 sh (.ins CS dx [("works", .ref wt), ("cells", .ref cd), ("locks", .ref lt)]) = A3 at b3 w4 l4 c4 o4 ⊢
    have c5 : (bv = .non ∧ S.bs = []) ∨ ∃ a, bv = .ref a ∧ Rd A3 a (.dK S.bs) := Z.b.imp id fun ⟨a, e, h⟩ => ⟨a, e, rd_but ho (fun z => (nomatch z)) (fun _ z => (nomatch z)) b3 h⟩
    refine ⟨_, rfl, bv, S.bs, rfl, c5, fun bd hbd => ?_⟩
    refine ⟨_, rfl, sh, CS, dx, _, rfl, (same_new hbd) _ _ o4, X.cl, X.belts, (by show 3 < 1000; decide), ?_⟩
    rw [sF_make3]
    rw [show ([("works", V.ref wt), ("cells", V.ref cd), ("locks", V.ref lt), ("belts", V.ref bd)] : List (Str × V)) = sF4 (.ref wt) (.ref cd) (.ref lt) (.ref bd) from rfl]
    have b4 : But sh H (upd (upd A3 bd (.dK S.bs)) sh (.ins CS dx (sF4 (.ref wt) (.ref cd) (.ref lt) (.ref bd)))) := (b3.trans (But.of (same_new hbd))).trans .put
    have ne2 : bd ≠ sh := fun e => by
      rw [e, o4] at hbd
      cases hbd
    have M : Mid K CS (upd (upd A3 bd (.dK S.bs)) sh (.ins CS dx (sF4 (.ref wt) (.ref cd) (.ref lt) (.ref bd)))) sh dx wt cd lt bd S := by
      have z := same_new (o := .dK S.bs) hbd
      refine ⟨upd_same, sqT_but (z _ _ o4) ins_ntup.1 ins_ntup.2 But.put (seqT_same z w4), ?_, sqT_but (z _ _ o4) ins_ntup.1 ins_ntup.2 But.put (seqT_same z l4), ?_⟩
      · rw [upd_ne ne1]
        exact z _ _ c4
      · rw [upd_ne ne2]
        exact upd_same
    have ne3 : cd ≠ bd := ne_of_none c4 hbd
    generalize upd (upd A3 bd (.dK S.bs)) sh (.ins CS dx (sF4 (.ref wt) (.ref cd) (.ref lt) (.ref bd))) = A4 at b4 M ⊢
    have ks : ∀ {kvs : List (Key × V)} {ns : List Str}, kvs.map (·.1) = ns.map Sum.inr → (kvs.map fun kv => L2.kV kv.1) = ns.map V.str := fun {kvs ns} e => by
      have z := congrArg (List.map L2.kV) e
      rw [List.map_map, List.map_map] at z
      exact z
    refine ⟨_, rfl, sh, CS, dx, _, _, rfl, M.ob, X.cl, X.works, sF4_get0, wt, S.ws, rfl, M.w, fun _ => ?_, fun z => absurd ⟨Z.w1, Z.w4⟩ z⟩
    refine ⟨_, rfl, sh, CS, dx, _, _, rfl, M.ob, X.cl, X.cells, sF4_get1, cd, S.cs, rfl, .inl M.c, _, rfl, sh, CS, dx, _, _, rfl, M.ob, X.cl, X.locks, sF4_get2, lt, _, rfl, .inl M.l, _, rfl, sh, CS, dx, _, _, rfl, M.ob, X.cl, X.belts, sF4_get3, bd, S.bs, rfl, .inl M.b, ?_, fun p hp => ?_⟩
    · have en : ((S.cs.map fun (kv : Key × V) => L2.kV kv.1) ++ (S.lN.map V.str ++ ((S.bs.map fun (kv : Key × V) => L2.kV kv.1) ++ []))).length ≤ 64 := by
        rw [ks Z.cn, ks Z.bn, List.append_nil, List.length_append, List.length_append, List.length_map, List.length_map, List.length_map]
        have z := Z.few
        rw [List.length_append, List.length_append] at z
        omega
      exact Nat.le_trans en (small_sz (n := 64) (by decide))
    have en : (S.cs.map fun (kv : Key × V) => L2.kV kv.1) ++ (S.lN.map V.str ++ ((S.bs.map fun (kv : Key × V) => L2.kV kv.1) ++ [])) = (S.cN ++ S.lN ++ S.bN).map V.str := by
      rw [ks Z.cn, ks Z.bn, List.append_nil, List.map_append, List.map_append, List.append_assoc]
    rw [en]
    refine ⟨p, _, rfl, SqL.of upd_same, Z.nd, Z.ww, Z.few, fun A5 s5 => ?_⟩
    have s6 : Same A4 A5 := (same_new hp).trans s5
    have M5 := M.same s6
    have b5 := b4.trans (But.of s6)
    refine ⟨cd, _, M5.c, trivial, fun od => ?_⟩
    have hsd : ∀ {o : HO}, (upd A5 cd o) sh = some (.ins CS dx (sF4 (.ref wt) (.ref cd) (.ref lt) (.ref bd))) := fun {o} => by
      rw [upd_ne (Ne.symm ne1)]
      exact M5.ob
    refine ⟨_, rfl, sh, CS, dx, _, _, rfl, hsd, X.cl, X.cells, sF4_get1, cd, od, _, rfl, upd_same, ?_⟩
    refine for_it walk_values (fun j σ H' => ∃ q : Option V, σ = [some (.ref sh), some (.ref wa), some cv, some (.ref la), some bv, some (.int S.lo), some (.int S.mo), q, none] ∧ (∀ b o, b ≠ cd → A5 b = some o → H' b = some o) ∧ H' cd = some (.frz od (.dK S.cs)))
      ⟨none, rfl, fun b o ne e => by rw [upd_ne ne]; exact e, upd_same⟩ (fun j σ H' _ ⟨_, _, _, z⟩ => z) ?_ ?_
    · rintro j x σ H6 H7 hj ⟨q, rfl, k6, f6⟩ ⟨rfl, kk, hx⟩
      have vn : Vn K H7 n x true := Z.cv (kk, x) (List.mem_of_getElem? hx) H7 fun a xs h => sqT_but M5.c dk_ntup.1 dk_ntup.2 k6 (sqT_but ho ins_ntup.1 ins_ntup.2 b5 h)
      refine ⟨_, rfl, x, true, rfl, vn, fun H8 s8 => ⟨fun _ => ?_, fun z => (nomatch z)⟩⟩
      exact ⟨_, rfl, fun b o ne e => s8 _ _ (k6 b o ne e), s8 _ _ f6⟩
    · rintro σ H6 ⟨q, rfl, k6, f6⟩
      refine ⟨f6, ?_⟩
      have s7 : Same A5 (upd H6 cd (.dK S.cs)) := fun b o e => by
        by_cases c : b = cd
        · subst c
          rw [M5.c] at e
          rw [upd_same]
          exact e
        · rw [upd_ne c]
          exact k6 b o c e
      have M6 := M5.same s7
      have b6 := b5.trans (But.of s7)
      generalize upd H6 cd (.dK S.cs) = A6 at s7 M6 b6 ⊢
      refine ⟨bd, _, M6.b, trivial, fun od2 => ?_⟩
      have hsd2 : ∀ {o : HO}, (upd A6 bd o) sh = some (.ins CS dx (sF4 (.ref wt) (.ref cd) (.ref lt) (.ref bd))) := fun {o} => by
        rw [upd_ne (Ne.symm ne2)]
        exact M6.ob
      refine ⟨_, rfl, sh, CS, dx, _, _, rfl, hsd2, X.cl, X.belts, sF4_get3, bd, od2, _, rfl, upd_same, ?_⟩
      refine for_it walk_values (fun j σ H' => ∃ r : Option V, σ = [some (.ref sh), some (.ref wa), some cv, some (.ref la), some bv, some (.int S.lo), some (.int S.mo), q, r] ∧ (∀ b o, b ≠ bd → A6 b = some o → H' b = some o) ∧ H' bd = some (.frz od2 (.dK S.bs)))
        ⟨none, rfl, fun b o ne e => by rw [upd_ne ne]; exact e, upd_same⟩ (fun j σ H' _ ⟨_, _, _, z⟩ => z) ?_ ?_
      · rintro j x σ H8 H9 hj ⟨r, rfl, k8, f8⟩ ⟨rfl, kk, hx⟩
        have z := Z.bz (kk, x) (List.mem_of_getElem? hx)
        have nxt : ∃ r : Option V, List.set [some (V.ref sh), some (.ref wa), some cv, some (.ref la), some bv, some (.int S.lo), some (.int S.mo), q, r] 8 (some x) = [some (V.ref sh), some (.ref wa), some cv, some (.ref la), some bv, some (.int S.lo), some (.int S.mo), q, r] ∧ (∀ b o, b ≠ bd → A6 b = some o → H9 b = some o) ∧ H9 bd = some (.frz od2 (.dK S.bs)) := ⟨_, rfl, k8, f8⟩
        refine ⟨_, rfl, x, rfl, ?_⟩
        rcases z with z | ⟨i, z, hi⟩
        · exact .inl ⟨z, nxt⟩
        · refine .inr ⟨fun e => ?_, true, ?_, fun e => (nomatch e), fun _ => ⟨i, z, fun _ => nxt, fun e => absurd hi (by omega)⟩⟩
          · rw [show x = V.int i from z] at e
            cases e
          · rw [show x = V.int i from z]
            exact whl_int
      · rintro σ H8 ⟨r, rfl, k8, f8⟩
        refine ⟨f8, ?_⟩
        have s9 : Same A6 (upd H8 bd (.dK S.bs)) := fun b o e => by
          by_cases c : b = bd
          · subst c
            rw [M6.b] at e
            rw [upd_same]
            exact e
          · rw [upd_ne c]
            exact k8 b o c e
        have M9 := M6.same s9
        have b9 := b6.trans (But.of s9)
        generalize upd H8 bd (.dK S.bs) = A9 at s9 M9 b9 ⊢
        refine ⟨_, rfl, _, 40, true, rfl, whl_int, fun e => (nomatch e), fun _ => ⟨S.lo, rfl, fun _ => ?_, fun e => absurd Z.l1 e⟩⟩
        refine ⟨_, rfl, _, 2000, true, rfl, whl_int, fun e => (nomatch e), fun _ => ⟨S.mo, rfl, fun _ => ?_, fun e => absurd Z.l2 e⟩⟩
        refine ⟨_, rfl, sh, CS, dx, _, _, rfl, M9.ob, X.cl, X.works, sF4_get0, wt, S.ws, rfl, .inr M9.w, ?_⟩
        refine ⟨_, rfl, sh, CS, dx, _, rfl, M9.ob, X.cl, X.many, (by show 4 < 1000; decide), ?_⟩
        rw [show putF "many" (V.int (S.ws.length : Nat)) (sF4 (.ref wt) (.ref cd) (.ref lt) (.ref bd)) = _ from sF_make4]
        refine ⟨_, rfl, _, rfl, sh, CS, dx, _, rfl, upd_same, X.cl, X.longest, (by show 5 < 1000; decide), ?_⟩
        rw [sF_make5, upd_upd]
        refine ⟨_, rfl, _, rfl, sh, CS, dx, _, rfl, upd_same, X.cl, X.most, (by show 6 < 1000; decide), ?_⟩
        rw [sF_make6, upd_upd]
        refine k wt cd lt bd _ (b9.trans .put) ⟨upd_same, sqT_but M9.ob ins_ntup.1 ins_ntup.2 But.put M9.w, ?_, Z.cn, sqT_but M9.ob ins_ntup.1 ins_ntup.2 But.put M9.l, ?_, Z.bn⟩
        · exact (upd_ne ne1).trans M9.c
        · exact (upd_ne ne2).trans M9.b
end
end TW
namespace TW
open PySem PySem.Spec PyProof.Rows L2
theorem pF_rF {C1 d1 C2 d2 : Addr} {a b c d e f g h : V} : HO.ins C1 d1 (pF a b c d) ≠ HO.ins C2 d2 (rF e f g h) := by
  intro z
  injection z with z1 z2 z3
  unfold pF rF at z3
  injection z3 with z4 z5
  injection z4 with z6 z7
  exact absurd z6 (by decide +kernel)
theorem upd_id {H : Hp} {a : Addr} {o : HO} (h : H a = some o) : upd H a o = H := by
  funext b
  by_cases e : b = a
  · rw [e, upd_same, h]
  · rw [upd_ne e]
/-- what a step answers and leaves in the cells -/
def DoesC (K : PySem.W.Frag) (w : World) (CT pS : Addr) (S : Addr → Option Sp) (me : Int) (pend : V) (H : Hp) (T : TS) (a : V) (c : List (Key × V)) : Prop :=
  ∀ (T2 : TS) (t2 : Addr) (G : Hp) (Q : VK), TK K H G → ThingsAt K CT G t2 T2 → T2.cells = T.cells → T2.holders = T.holders → T2.rows = T.rows → T2.sizes = T.sizes → Q a (upd G T2.cd (.dK c)) → spDoStep K w pS S [.ref t2, .int me, pend] G Q (fun _ _ _ => False)
/-- all but a run's own three objects stand -/
def But3 (r pl dn : Addr) (H H' : Hp) : Prop := ∀ b o, b ≠ r → b ≠ pl → b ≠ dn → H b = some o → H' b = some o
/-- a run, well laid -/
structure RunI (K : PySem.W.Frag) (CR CT CP : Addr) (H : Hp) (r : Addr) (R : RS) : Prop where
  at_ : RunAt K CR CT CP H r R
  ne : R.dn ≠ R.pl
theorem run_tk {K : PySem.W.Frag} {CR CT CP : Addr} {H H' : Hp} {r : Addr} {R : RS} (hR : RunAt K CR CT CP H r R) (b : But3 r R.pl R.dn H H') : TK K H H' := fun a xs q => by
  have no : ∀ (o : HO), H a = some o → (∀ C d fs, o ≠ .ins C d fs) → (∀ ys, o ≠ .lst ys) → H' a = some o := fun o e n1 n2 =>
    b a o (fun z => by rw [z, hR.ob] at e; exact n1 _ _ _ (Option.some.inj e).symm) (fun z => by rw [z, hR.p] at e; exact n2 _ (Option.some.inj e).symm) (fun z => by rw [z, hR.d] at e; exact n2 _ (Option.some.inj e).symm) e
  rcases q with (q | ⟨o, q⟩) | q
  · exact .inl (.inl (no _ q (fun _ _ _ z => (nomatch z)) fun _ z => (nomatch z)))
  · exact .inl (.inr ⟨o, no _ q (fun _ _ _ z => (nomatch z)) fun _ z => (nomatch z)⟩)
  · exact .inr q
end TW
namespace TW
open PySem PySem.Spec PyProof.Rows L2
theorem tF_rF {C1 d1 C2 d2 : Addr} {a b c d e f g h : V} : HO.ins C1 d1 (tF a b c d) ≠ HO.ins C2 d2 (rF e f g h) := by
  intro z
  injection z with z1 z2 z3
  unfold tF rF at z3
  injection z3 with z4 z5
  injection z4 with z6 z7
  exact absurd z6 (by decide +kernel)
theorem whl_i {K : PySem.W.Frag} {H : Hp} {i : Int} : Whl K H (.int i) true := ⟨"int", true, false, .base (.int i), by decide +kernel, fun _ => by decide +kernel, rfl⟩
/-- a run behind a step of work n -/
structure Went (K : PySem.W.Frag) (H' : Hp) (R R' : RS) (n : Nat) (pend : V) (a : V) (c : List (Key × V)) (y' : PS) : Prop where
  sh : R'.sh = R.sh
  pl : R'.pl = R.pl
  dn : R'.dn = R.dn
  c : R'.T.cells = c
  h : R'.T.holders = R.T.holders
  r : R'.T.rows = R.T.rows
  s : R'.T.sizes = R.T.sizes
  places : R'.places = R.places.set n y'
  done : ∃ t, R'.done = R.done ++ [.ref t] ∧ SqT K H' t [.int (n : Int), pend, a]
section
variable {P : Program} {w : World} {K : PySem.W.Frag} {mg : Str → Option Value} {base : Heap} {C CS CP CH CV CR CT CW CC pS : Addr} {kw m : Nat} {S : Addr → Option Sp} {Rel : Hp → V → V → Bool → Prop}
theorem place_but {H H' : Hp} {r : Addr} {R : RS} {x : PS} (hR : RunAt K CR CT CP H r R) (b : But3 r R.pl R.dn H H') (A : PlaceAt K CP H x) : PlaceAt K CP H' x :=
  ⟨b _ _ (ne_of A.ob hR.ob pF_rF) (ne_of A.ob hR.p (by intro z; cases z)) (ne_of A.ob hR.d (by intro z; cases z)) A.ob, run_tk hR b _ _ A.a, run_tk hR b _ _ A.w⟩
theorem go_use {SSh : SS} {g : Addr} {n : Nat} {Adm : List V → Prop} {B : Beh} (hB : BehS K B) (hx : PySem.W.exmOne K (.ref CH) (.ref CH) = some true) (Wk : WorkOk P w K mg base C CS CH kw m SSh g n Adm B) {H : Hp} {r : Addr} {R : RS} {y : PS} {a : V} {c : List (Key × V)}
    (hI : RunI K CR CT CP H r R) (hS : ShopAt K CS H R.sh SSh) (ey : R.places[n]? = some y) (hw : SSh.works[n]? = some (.ref g)) (can : CanGo K Rel H R.T y.pend true) (adm : Adm (y.ans ++ [a])) (do_ : DoesC K w CT pS S (n : Int) y.pend H R.T a c)
    (few1 : y.ans.length + 1 ≤ 100000) (few2 : R.done.length < sizeLine) (nh : R.T.cells ≠ R.T.holders) (nr : R.T.cells ≠ R.T.rows) {Q : VK} {E : XK}
    (k : ∀ (R' : RS) (y' : PS) (H' : Hp), But3 r R.pl R.dn H H' → RunI K CR CT CP H' r R' → Went K H' R R' n y.pend a c y' → y'.ans = y.ans ++ [a] → B H' y'.ans y'.pend y'.fin y'.words → Q a H') :
    spGo P w K CR CT CP CW CC pS S Rel (spCome P w K mg base C CS CP CH CV kw m) [.ref r, .int (n : Int)] H Q E := by
  have hR := hI.at_
  have mem := List.mem_of_getElem? ey
  have hn := (List.getElem?_eq_some_iff.mp ey).1
  refine ⟨r, R, .int (n : Int), true, rfl, hR, whl_i, fun z => (nomatch z), fun _ => ⟨n, rfl, fun z => absurd ⟨by omega, by omega⟩ z, fun n' y2 en ey2 => ?_⟩⟩
  obtain rfl : n = n' := by omega
  obtain rfl : y = y2 := Option.some.inj (ey.symm.trans ey2)
  refine ⟨true, can, fun H1 s1 => ⟨fun z => (nomatch z), fun _ t2 dx cd hd rd G n1 n2 n3 n4 n5 sG hT => ?_⟩⟩
  refine do_ { R.T with dx := dx, cd := cd, hd := hd, rd := rd } t2 G _ (TK.of (s1.trans sG)) hT rfl rfl rfl rfl ?_
  have s2 : Same H (upd G cd (.dK c)) := fun b o e => by
    rw [upd_ne (ne_of_none (s1 _ _ e) n3)]
    exact sG _ _ (s1 _ _ e)
  have hT2 : ThingsAt K CT (upd G cd (.dK c)) t2 { R.T with dx := dx, cd := cd, hd := hd, rd := rd, cells := c } := by
    have hc : G cd = some (.dK R.T.cells) := hT.c
    have hh : G hd = some (.dK R.T.holders) := hT.h
    have hr : G rd = some (.dK R.T.rows) := hT.r
    refine ⟨?_, upd_same, ?_, ?_, s2 _ _ hR.t.s⟩
    · exact (upd_ne (ne_of hT.ob hc (by intro z; cases z))).trans hT.ob
    · exact (upd_ne (ne_of hh hc (by intro z; injection z with z; exact nh z.symm))).trans hh
    · exact (upd_ne (ne_of hr hc (by intro z; injection z with z; exact nr z.symm))).trans hr
  refine ⟨s2 _ _ hR.ob, (hR.e y mem).same s2, few1, fun an2 H3 s3 ha => ?_⟩
  have s4 := s2.trans s3
  refine come_use hB hx Wk (hS.same s4) ha hw adm fun pl dp tw pend fin words H4 s5 hpl o4 w4 b4 => ?_
  have s6 : Same H H4 := s4.trans s5
  have q1 := s6 _ _ hR.ob
  have q2 := s6 _ _ hR.p
  have q3 := s6 _ _ hR.d
  have q4 := s6 _ _ (hR.e y mem).ob
  refine ⟨pl, rfl, q1, q2, q3, hI.ne, few2, q4, ne_of q4 q1 pF_rF, fun t ht => ?_⟩
  have z1 : r ≠ R.pl := ne_of q1 q2 (by intro z; cases z)
  have z2 : r ≠ R.dn := ne_of q1 q3 (by intro z; cases z)
  have g1 : goHp CR r R n t2 pl H4 r = some (.ins CR R.dx (rF (.ref R.sh) (.ref t2) (.ref R.pl) (.ref R.dn))) := (upd_ne z1).trans upd_same
  have g2 : goHp CR r R n t2 pl H4 R.pl = some (.lst ((R.places.map fun x => V.ref x.p).set n (.ref pl))) := upd_same
  have g0 : ∀ b o, b ≠ r → b ≠ R.pl → H4 b = some o → goHp CR r R n t2 pl H4 b = some o := fun b o e1 e2 e => (upd_ne e2).trans ((upd_ne e1).trans e)
  have bF : But3 r R.pl R.dn H4 (upd (upd (goHp CR r R n t2 pl H4) t (.tup [.int (n : Int), y.pend, a])) R.dn (.lst (R.done ++ [.ref t]))) := fun b o e1 e2 e3 e => by
    have z := g0 b o e1 e2 e
    rw [upd_ne e3, upd_ne (ne_of_none z ht)]
    exact z
  have ep : (R.places.map fun x => V.ref x.p).set n (.ref pl) = (R.places.set n ⟨pl, dp, an2, y.ans ++ [a], pend, fin, tw, words⟩).map fun x => V.ref x.p := by
    rw [List.map_set]
  have hR4 : RunAt K CR CT CP H4 r R := hR.same s6
  have tk := run_tk hR4 bF
  have td : t ≠ R.dn := fun e => by
    rw [e] at ht
    rw [show goHp CR r R n t2 pl H4 R.dn = some (.lst R.done) from g0 _ _ (Ne.symm z2) hI.ne q3] at ht
    cases ht
  have u1 : upd (upd (goHp CR r R n t2 pl H4) t (.tup [.int (n : Int), y.pend, a])) R.dn (.lst (R.done ++ [.ref t])) r = some (.ins CR R.dx (rF (.ref R.sh) (.ref t2) (.ref R.pl) (.ref R.dn))) := by
    rw [upd_ne z2, upd_ne (ne_of_none g1 ht)]
    exact g1
  have u2 : upd (upd (goHp CR r R n t2 pl H4) t (.tup [.int (n : Int), y.pend, a])) R.dn (.lst (R.done ++ [.ref t])) R.pl = some (.lst ((R.places.set n ⟨pl, dp, an2, y.ans ++ [a], pend, fin, tw, words⟩).map fun x => V.ref x.p)) := by
    rw [upd_ne (Ne.symm hI.ne), upd_ne (ne_of_none g2 ht), g2, ep]
  have T4 : ThingsAt K CT H4 t2 { R.T with dx := dx, cd := cd, hd := hd, rd := rd, cells := c } := hT2.same (s3.trans s5)
  have kp : ∀ {b : Addr} {o : HO}, H4 b = some o → (∀ a b c d, o ≠ .ins CR R.dx (rF a b c d)) → (∀ ys, o ≠ .lst ys) → (upd (upd (goHp CR r R n t2 pl H4) t (.tup [.int (n : Int), y.pend, a])) R.dn (.lst (R.done ++ [.ref t]))) b = some o := fun {b o} e e1 e2 =>
    bF b o (ne_of e q1 (e1 _ _ _ _)) (ne_of e q2 (e2 _)) (ne_of e q3 (e2 _)) e
  refine k ⟨R.dx, R.sh, t2, R.pl, R.dn, { R.T with dx := dx, cd := cd, hd := hd, rd := rd, cells := c }, R.places.set n ⟨pl, dp, an2, y.ans ++ [a], pend, fin, tw, words⟩, R.done ++ [.ref t]⟩ ⟨pl, dp, an2, y.ans ++ [a], pend, fin, tw, words⟩ _ (fun b o e1 e2 e3 e => bF b o e1 e2 e3 (s6 _ _ e)) ⟨⟨u1, ?_, u2, fun x hx => ?_, upd_same⟩, hI.ne⟩
    ⟨rfl, rfl, rfl, rfl, rfl, rfl, rfl, rfl, t, rfl, SqT.of ((upd_ne td).trans upd_same)⟩ rfl (hB _ _ _ _ _ _ tk b4)
  · refine ⟨kp T4.ob (fun _ _ _ _ => tF_rF) (fun _ z => (nomatch z)), kp T4.c (fun _ _ _ _ z => (nomatch z)) (fun _ z => (nomatch z)), kp T4.h (fun _ _ _ _ z => (nomatch z)) (fun _ z => (nomatch z)), kp T4.r (fun _ _ _ _ z => (nomatch z)) (fun _ z => (nomatch z)), kp T4.s (fun _ _ _ _ z => (nomatch z)) (fun _ z => (nomatch z))⟩
  · rcases List.mem_or_eq_of_mem_set hx with h | rfl
    · exact place_but hR4 bF (hR4.e x h)
    · exact place_but hR4 bF ⟨o4, seqT_same s5 ha, w4⟩
end
end TW
namespace TW
open PySem PySem.Spec PyProof.Rows L2
section
variable {P : Program} {w : World} {K : PySem.W.Frag} {mg : Str → Option Value} {base : Heap} {CT pS : Addr} {S : Addr → Option Sp} {Rel : Hp → V → V → Bool → Prop}
theorem does_look {H : Hp} {T : TS} {wt f : Addr} {nm : Str} {me : Int} {v : V} (hw : SqT K H wt [.str "look", .str nm]) (hv : valV T.cells (Sum.inr nm) = some v) (hk : KDct K w pS "look" (.ref f)) (hs : S f = some (spStep K CT dLook)) : DoesC K w CT pS S me (.ref wt) H T v T.cells := by
  intro T2 t2 G Q tk hT e1 e2 e3 e4 hq
  have ei : upd G T2.cd (.dK T.cells) = G := by
    have z := hT.c
    rw [e1] at z
    exact upd_id z
  rw [ei] at hq
  exact ⟨.ref t2, .int me, wt, f, "look", [.str nm], _, rfl, tk _ _ hw, hk, hs, t2, wt, me, T2, "look", nm, [], rfl, hT, tk _ _ hw, v, by rw [e1]; exact hv, hq⟩
theorem does_swap {H : Hp} {T : TS} {wt f : Addr} {nm : Str} {me : Int} {v x : V} (hw : SqT K H wt [.str "swap", .str nm, x]) (hv : valV T.cells (Sum.inr nm) = some v) (few : T.cells.length < sizeLine) (hk : KDct K w pS "swap" (.ref f)) (hs : S f = some (spStep K CT dSwap)) : DoesC K w CT pS S me (.ref wt) H T v (putK T.cells (Sum.inr nm) x) := by
  intro T2 t2 G Q tk hT e1 e2 e3 e4 hq
  refine ⟨.ref t2, .int me, wt, f, "swap", [.str nm, x], _, rfl, tk _ _ hw, hk, hs, t2, wt, me, T2, "swap", nm, [x], rfl, hT, tk _ _ hw, x, [], v, rfl, by rw [e1]; exact hv, by rw [e1]; exact few, ?_⟩
  rw [e1]
  exact hq
theorem can_plain {H : Hp} {T : TS} {wt : Addr} {word : Str} {rest : List V} (hw : SqT K H wt (.str word :: rest)) (n1 : word ≠ "until") (n2 : word ≠ "take") (n3 : word ≠ "lay") (n4 : word ≠ "fetch") : CanGo K Rel H T (.ref wt) true :=
  .inr ⟨wt, word, rest, rfl, hw, fun z => absurd z n1, fun z => absurd z n2, fun z => absurd z n3, fun z => absurd z n4, fun _ _ _ _ => rfl⟩
theorem can_end {H : Hp} {T : TS} : CanGo K Rel H T .non false := .inl ⟨rfl, rfl⟩
end
end TW
namespace TW
open PySem PySem.Spec PyProof.Rows L2
theorem place_put {K : PySem.W.Frag} {CP D : Addr} {H : Hp} {x : PS} {xs ys : List V} (hD : H D = some (.lst xs)) (A : PlaceAt K CP H x) : PlaceAt K CP (upd H D (.lst ys)) x :=
  ⟨(upd_ne (ne_of A.ob hD (by intro z; cases z))).trans A.ob, sqT_but hD (fun _ z => (nomatch z)) (fun _ _ z => (nomatch z)) But.put A.a, sqT_but hD (fun _ z => (nomatch z)) (fun _ _ z => (nomatch z)) But.put A.w⟩
theorem tk_lst {K : PySem.W.Frag} {D : Addr} {H : Hp} {xs ys : List V} (hD : H D = some (.lst xs)) : TK K H (upd H D (.lst ys)) := fun _ _ q => sqT_but hD (fun _ z => (nomatch z)) (fun _ _ z => (nomatch z)) But.put q
theorem tF_shop {C1 d1 C2 d2 : Addr} {a b c d e : V} {fs : List (Str × V)} : HO.ins C1 d1 (tF a b c d) ≠ HO.ins C2 d2 (("shop", e) :: fs) := by
  intro z
  injection z with z1 z2 z3
  unfold tF at z3
  injection z3 with z4 z5
  injection z4 with z6 z7
  exact absurd z6 (by decide +kernel)
theorem pF_shop {C1 d1 C2 d2 : Addr} {a b c d e : V} {fs : List (Str × V)} : HO.ins C1 d1 (pF a b c d) ≠ HO.ins C2 d2 (("shop", e) :: fs) := by
  intro z
  injection z with z1 z2 z3
  unfold pF at z3
  injection z3 with z4 z5
  injection z4 with z6 z7
  exact absurd z6 (by decide +kernel)
section
variable {P : Program} {w : World} {K : PySem.W.Frag} {mg : Str → Option Value} {base : Heap} {C CS CP CH CV CR CT : Addr} {kw n : Nat}
theorem ri_use {S : SS} {m : Nat} (Bs : Nat → Beh) (Ad : Nat → List V → Prop) (gs : Nat → Addr) (hx : PySem.W.exmOne K (.ref CH) (.ref CH) = some true) (hB : ∀ i, i < m → BehS K (Bs i)) (hA : ∀ i, i < m → Ad i []) (hw : ∀ i, i < m → S.works[i]? = some (.ref (gs i)))
    (Wk : ∀ i, i < m → WorkOk P w K mg base C CS CH kw n S (gs i) i (Ad i) (Bs i)) {H : Hp} {r dx sh : Addr} (ho : H r = some (.ins CR dx [])) (hS : ShopAt K CS H sh S) (hm : S.many = (m : Int)) (few : m ≤ 1000) (n1 : S.locks.Nodup) (n2 : S.beltN.Nodup) (l1 : S.locks.length ≤ 1000) (l2 : S.belts.length ≤ 1000) {Q : VK} {E : XK}
    (k : ∀ (R : RS) (H' : Hp), But r H H' → RunI K CR CT CP H' r R → R.sh = sh → R.T.cells = S.cells → R.T.holders = S.locks.map (fun s => (Sum.inr s, V.non)) → R.T.rows.map (·.1) = S.beltN.map Sum.inr → (∀ p ∈ R.T.rows, ∃ a, p.2 = .ref a ∧ SqT K H' a []) → R.T.sizes = S.belts → R.places.length = m →
      (∀ j x, R.places[j]? = some x → x.ans = [] ∧ Bs j H' [] x.pend x.fin x.words) → R.done = [] → H R.pl = none → H R.dn = none → Q .non H') :
    spRI K CR CS CT (spCome P w K mg base C CS CP CH CV kw n) [.ref r, .ref sh] H Q E := by
  have hsr : sh ≠ r := ne_of hS.ob ho (by
    intro z
    injection z with z1 z2 z3
    unfold sF at z3
    cases z3)
  refine ⟨r, dx, sh, S, m, rfl, ho, hm, few, ?_⟩
  have b0 : But r H (upd H r (.ins CR dx [("shop", .ref sh)])) := .put
  have sB : ∀ {G G' : Hp}, But r G G' → (∃ fs, G r = some (.ins CR dx fs)) → ShopAt K CS G sh S → ShopAt K CS G' sh S := fun {G G'} b ⟨fs, e⟩ A =>
    ⟨b _ _ hsr A.ob, sqT_but e ins_ntup.1 ins_ntup.2 b A.w, b _ _ (ne_of A.c e (by intro z; cases z)) A.c, A.cn, sqT_but e ins_ntup.1 ins_ntup.2 b A.l, b _ _ (ne_of A.b e (by intro z; cases z)) A.b, A.bn⟩
  have S0 := sB b0 ⟨_, ho⟩ hS
  refine ⟨sh, S, rfl, S0, n1, n2, l1, l2, fun t2 tdx cd hd rd rows G f1 f2 f3 f4 sG hT hk hr => ?_⟩
  have or : G r = some (.ins CR dx [("shop", .ref sh)]) := sG _ _ upd_same
  refine ⟨or, S0.same sG, hsr, fun D hD => ?_⟩
  have b1 : But r H G := b0.trans (But.of sG)
  refine ⟨fun i H1 acc => ∃ ps : List PS, acc = ps.map (fun x => V.ref x.p) ∧ ps.length = i ∧ (∀ j x, ps[j]? = some x → PlaceAt K CP H1 x ∧ x.ans = [] ∧ Bs j H1 [] x.pend x.fin x.words) ∧ (∀ b o, b ≠ r → b ≠ D → G b = some o → H1 b = some o) ∧ H1 r = some (.ins CR dx [("shop", .ref sh), ("things", .ref t2)]) ∧ H1 D = some (.lst acc) ∧ D ≠ r, ?_, ?_, ?_⟩
  · have e : D ≠ r := fun e => by
      rw [e, upd_same] at hD
      cases hD
    exact ⟨[], rfl, rfl, fun j x z => (nomatch z), fun b o e1 e2 z => by rw [upd_ne e2, upd_ne e1]; exact z, (upd_ne (Ne.symm e)).trans upd_same, upd_same, e⟩
  · rintro i H1 acc hi ⟨ps, rfl, hl, each, f, hr1, hd1, dr⟩ _ t ht
    have gD : G D = none := by
      rw [upd_ne dr] at hD
      exact hD
    have bG : But r G H1 := fun b o e1 e => f b o e1 (ne_of_none e gD) e
    have st := same_new (o := .tup []) ht
    have S1 := (sB bG ⟨_, or⟩ (S0.same sG)).same st
    refine come_use (hB i hi) hx (Wk i hi) S1 (SqT.of upd_same) (hw i hi) (hA i hi) fun pl dp tw pend fin words H2 s5 hpl o4 w4 b4 => ?_
    have sm := st.trans s5
    have hd2 := sm _ _ hd1
    refine ⟨hd2, ps ++ [⟨pl, dp, t, [], pend, fin, tw, words⟩], by rw [List.map_append]; rfl, by rw [List.length_append, hl]; rfl, fun j x e => ?_, fun b o e1 e2 e => by rw [upd_ne e2]; exact sm _ _ (f b o e1 e2 e), (upd_ne (Ne.symm dr)).trans (sm _ _ hr1), upd_same, dr⟩
    by_cases c : j < ps.length
    · rw [List.getElem?_append_left c] at e
      obtain ⟨q1, q2, q3⟩ := each j x e
      exact ⟨place_put hd2 (q1.same sm), q2, hB j (Nat.lt_trans (hl ▸ c) hi) _ _ _ _ _ _ ((TK.of sm).trans (tk_lst hd2)) q3⟩
    · have z := (List.getElem?_eq_some_iff.mp e).1
      rw [List.length_append] at z
      have ej : j = ps.length := by
        have : j < ps.length + 1 := z
        omega
      rw [ej, List.getElem?_append_right (Nat.le_refl _), Nat.sub_self] at e
      obtain rfl := (Option.some.inj (show some _ = some x from e)).symm
      rw [ej, hl]
      exact ⟨place_put hd2 ⟨o4, seqT_same s5 (SqT.of upd_same), w4⟩, rfl, hB i hi _ _ _ _ _ _ (tk_lst hd2) b4⟩
  · rintro H1 acc hl ⟨ps, rfl, hl2, each, f, hr1, hd1, dr⟩ _
    refine ⟨hr1, fun l hlf => ?_⟩
    have gD : G D = none := by
      rw [upd_ne dr] at hD
      exact hD
    have fr := upd_free hlf
    have ld : l ≠ D := fun e => by
      rw [e, hd1] at fr
      cases fr.2
    have fin : ∀ b o, b ≠ r → H1 b = some o → (upd (upd (upd H1 r (.ins CR dx [("shop", .ref sh), ("things", .ref t2), ("places", .ref D)])) l (.lst [])) r (.ins CR dx (rF (.ref sh) (.ref t2) (.ref D) (.ref l)))) b = some o := fun b o e1 e => by
      rw [upd_ne e1, upd_ne (fun z => by rw [z, fr.2] at e; cases e), upd_ne e1]
      exact e
    have g1 : ∀ b o, b ≠ r → G b = some o → H1 b = some o := fun b o e1 e => f b o e1 (ne_of_none e gD) e
    have tk : TK K H1 (upd (upd (upd H1 r (.ins CR dx [("shop", .ref sh), ("things", .ref t2), ("places", .ref D)])) l (.lst [])) r (.ins CR dx (rF (.ref sh) (.ref t2) (.ref D) (.ref l)))) := fun a xs q => sqT_but hr1 ins_ntup.1 ins_ntup.2 fin q
    refine k ⟨dx, sh, t2, D, l, ⟨tdx, cd, S.cells, hd, S.locks.map (fun s => (Sum.inr s, V.non)), rd, rows, S.bd, S.belts⟩, ps, []⟩ _ (fun b o e1 e => fin b o e1 (g1 b o e1 (b1 b o e1 e))) ⟨⟨upd_same, ⟨?_, ?_, ?_, ?_, ?_⟩, fin _ _ dr hd1, fun x hx => ?_, ?_⟩, ld⟩ rfl rfl rfl hk (fun p hp => ?_) rfl (hl2) (fun j x e => ?_) rfl ?_ ?_
    · exact fin _ _ (ne_of hT.ob or tF_shop) (g1 _ _ (ne_of hT.ob or tF_shop) hT.ob)
    · exact fin _ _ (ne_of hT.c or (by intro z; cases z)) (g1 _ _ (ne_of hT.c or (by intro z; cases z)) hT.c)
    · exact fin _ _ (ne_of hT.h or (by intro z; cases z)) (g1 _ _ (ne_of hT.h or (by intro z; cases z)) hT.h)
    · exact fin _ _ (ne_of hT.r or (by intro z; cases z)) (g1 _ _ (ne_of hT.r or (by intro z; cases z)) hT.r)
    · exact fin _ _ (ne_of hT.s or (by intro z; cases z)) (g1 _ _ (ne_of hT.s or (by intro z; cases z)) hT.s)
    · obtain ⟨j, hj, e⟩ := List.mem_iff_getElem.mp hx
      have q := (each j x (by rw [List.getElem?_eq_getElem hj, e])).1
      exact ⟨fin _ _ (ne_of q.ob hr1 pF_shop) q.ob, tk _ _ q.a, tk _ _ q.w⟩
    · exact (upd_ne fr.1).trans upd_same
    · obtain ⟨a, e1, e2⟩ := hr p hp
      exact ⟨a, e1, tk _ _ (sqT_but or ins_ntup.1 ins_ntup.2 g1 e2)⟩
    · obtain ⟨_, q2, q3⟩ := each j x e
      have hj : j < m := hl2 ▸ (List.getElem?_eq_some_iff.mp e).1
      exact ⟨q2, hB j hj _ _ _ _ _ _ tk q3⟩
    · show H D = none
      cases e : H D with
      | none => rfl
      | some o =>
        rw [b1 _ _ dr e] at gD
        cases gD
    · show H l = none
      cases e : H l with
      | none => rfl
      | some o =>
        rw [f _ _ fr.1 ld (b1 _ _ fr.1 e)] at fr
        cases fr.2
end
end TW
namespace TW
open PySem PySem.Spec PyProof.Rows L2
abbrev sSource : Stmt := top 64
abbrev sDraw : Stmt := top 65
/-- three numbers, the third 0 as yet -/
def spSource (K : PySem.W.Frag) : Sp := fun vs H Q _ => ∃ (a : Addr) (ns : List Int) (i : Nat), vs = [.ref a, .int (i : Int)] ∧ SqL K H a (ns.map V.int) ∧ ns.length ≤ 63 ∧
  ∀ (p : Addr) (x y : Int), H p = none → Q (.ref p) (upd H p (.lst [.int x, .int y, .int 0]))
/-- a number from 0 to below m -/
def spDraw : Sp := fun vs H Q _ => ∃ (p : Addr) (a b c m : Int), vs = [.ref p, .int m] ∧ H p = some (.lst [.int a, .int b, .int c]) ∧ 0 < m ∧ m < 1073741824 ∧
  ∀ r a' b' c' : Int, 0 ≤ r → r < m → Q (.int r) (upd H p (.lst [.int a', .int b', .int c']))
theorem atI_map {ns : List Int} {i : Nat} (h : i < ns.length) : atI (ns.map V.int) (i : Int) = some (.int (ns[i]'h)) := by
  rw [atI_nat]
  rw [List.getElem?_map, List.getElem?_eq_getElem h]
  rfl
section
variable {P : Program} {w : World} {K : PySem.W.Frag} {mg : Str → Option Value} {base : Heap}
theorem scSource : FnScope ["_law_script", "_law_at", "_law_cell"] ["_law_script", "_law_at"] (defScope sSource) := ⟨rfl, rfl, rfl, by decide +kernel, rfl, by decide +kernel, by decide +kernel⟩
theorem ok_source {f : Addr} {fd : FuncData} (F : Fun K "_law_source" "_law_source" sSource f fd) (B : Blt mg) : FnOk P w K mg base CX0 1 f fd ["_law_script", "_law_at"] (spSource K) := by
  refine F.ok scSource (fun vs H Q E h => ?_) (fun cdv A outer s H vs Q E hr h => ?_)
  · obtain ⟨a, ns, i, rfl, _⟩ := h
    rfl
  · obtain ⟨a, ns, i, rfl, hS, hl, k⟩ := h
    refine ⟨_, pss_cons (ps_set (i := 2) scSource.nd rfl (.inl rfl)
        (pe_ifExp (pt_cmpR op_lt (pv 1) (pe_callB call_len_seq (by rfl) B.len PySem.boot_len (pa_cons (pv 0) pa_nil)) (nomark _))
          (pe_ix ix_list (pv 0) (pv 1) (fun _ _ => rfl)) (pe_op op_add (pe_op op_mul pe_int (pv 1)) pe_int)))
      (pss_one (ps_ret (pe_lst (pa_cons (pe_ifExp (pt_cmpR op_ge (pv 2) (pe_op op_pow pe_int pe_int) (nomark _)) (pv 2) pe_int)
        (pa_cons (pe_op op_mod (pe_callTy call_int1 (by rfl) B.int (by decide +kernel) (pa_cons (pv 2) pa_nil)) pe_int) (pa_cons pe_int pa_nil)))))), ?_⟩
    have rest : ∀ z : Int, tRet (tLst (tCons (tIf (tTest (tOp (rI0 fun i j => .bl (decide (j ≤ i))) (tVar 2) (tOp (rI CPow fun i j => .int (i ^ j.toNat)) (tC (.int 10)) (tC (.int 18))))) (tVar 2) (tC (.int 0)))
        (tCons (tOp (rI (fun _ j => 0 < j) fun i j => .int (i % j)) (tCB (fun xs H Q => (∃ i, xs = [.int i] ∧ Q (.int i) H) ∨ ∃ k, xs = [.bl k] ∧ Q (.int (if k then 1 else 0)) H) (tCons (tVar 2) tNil)) (tC (.int 2147483647))) (tCons (tC (.int 0)) tNil))))
        { nx := fun _ H' => Q .non H', rt := Q } [some (.ref a), some (.int (i : Int)), some (.int z)] H := by
      intro z
      refine ⟨_, rfl, _, _, rfl, rfl, ⟨by decide, by decide, by decide⟩, _, _, rfl, rfl, _, rfl, ?_⟩
      refine ite2 (fun _ => ?_) (fun _ => ?_)
      · exact ⟨_, rfl, _, rfl, .inl ⟨_, rfl, _, _, rfl, rfl, by show (0 : Int) < 2147483647; decide, by show 3 ≤ sizeLine; decide, fun p hp => k p _ _ hp⟩⟩
      · exact ⟨_, rfl, .inl ⟨_, rfl, _, _, rfl, rfl, by show (0 : Int) < 2147483647; decide, by show 3 ≤ sizeLine; decide, fun p hp => k p _ _ hp⟩⟩
    refine ⟨_, rfl, _, rfl, a, _, rfl, .inl hS, _, _, rfl, rfl, _, rfl, ?_⟩
    refine ite2 (fun c => ?_) (fun _ => ?_)
    · have hi : i < ns.length := by
        have z := of_decide_eq_true c
        rw [List.length_map] at z
        omega
      exact ⟨_, rfl, _, rfl, a, _, _, _, rfl, rfl, hS, atI_map hi, rest _⟩
    · exact ⟨_, rfl, _, _, rfl, rfl, .inl ⟨by decide, by decide⟩, _, _, rfl, rfl, rest _⟩
theorem scDraw : FnScope ["_law_draws", "_law_many", "_law_found"] ["_law_draws", "_law_many"] (defScope sDraw) := ⟨rfl, rfl, rfl, by decide +kernel, rfl, by decide +kernel, by decide +kernel⟩
theorem ok_draw {f : Addr} {fd : FuncData} (F : Fun K "_law_draw" "_law_draw" sDraw f fd) (B : Blt mg) : FnOk P w K mg base CX0 1 f fd ["_law_draws", "_law_many"] spDraw := by
  refine F.ok scDraw (fun vs H Q E h => ?_) (fun cdv A outer s H vs Q E hr h => ?_)
  · obtain ⟨p, a, b, c, m, rfl, _⟩ := h
    rfl
  · obtain ⟨p, a, b, c, m, rfl, hp, h0, h1, k⟩ := h
    refine ⟨_, pss_cons (ps_if (pt_cmpR op_gt (pe_ix ix_list (pv 0) pe_int (fun _ _ => rfl)) pe_int (nomark _))
        (pss_cons (ps_set (i := 2) scDraw.nd rfl (.inl rfl) (pe_op op_mod (pe_callTy call_int1 (by rfl) B.int (by decide +kernel) (pa_cons (pe_ix ix_list (pv 0) pe_int (fun _ _ => rfl)) pa_nil)) (pv 1)))
        (pss_cons (ps_asg (pe_op op_fdivN (pe_ix ix_list (pv 0) pe_int (fun _ _ => rfl)) (pv 1)) (pg_sub (pv 0) pe_int set_list))
        (pss_one (ps_ret (pv 2))))) pss_nil)
      (pss_cons (ps_asg (pe_op op_add (pe_ix ix_list (pv 0) pe_int (fun _ _ => rfl)) pe_int) (pg_sub (pv 0) pe_int set_list))
      (pss_cons (ps_asg (pe_op op_mod (pe_callTy call_int1 (by rfl) B.int (by decide +kernel) (pa_cons (pe_op op_add (pe_op op_add (pe_op op_mul (pe_ix ix_list (pv 0) pe_int (fun _ _ => rfl)) pe_int) (pe_op op_mul (pe_ix ix_list (pv 0) pe_int (fun _ _ => rfl)) pe_int)) pe_int) pa_nil)) pe_int) (pg_sub (pv 0) pe_int set_list))
      (pss_one (ps_ret (pe_op op_mod (pe_callTy call_int1 (by rfl) B.int (by decide +kernel) (pa_cons (pe_op op_add (pe_op op_fdiv (pe_ix ix_list (pv 0) pe_int (fun _ _ => rfl)) pe_int) (pe_ix ix_list (pv 0) pe_int (fun _ _ => rfl))) pa_nil)) (pv 1)))))), ?_⟩
    have at0 : ∀ x y z : V, atI [x, y, z] 0 = some x := fun _ _ _ => atI_nat (j := 0) rfl
    have at1 : ∀ x y z : V, atI [x, y, z] 1 = some y := fun _ _ _ => atI_nat (j := 1) rfl
    have at2 : ∀ x y z : V, atI [x, y, z] 2 = some z := fun _ _ _ => atI_nat (j := 2) rfl
    refine ⟨_, rfl, p, _, _, _, rfl, rfl, SqL.of hp, at0 _ _ _, _, _, rfl, rfl, _, rfl, ?_⟩
    refine ite2 (fun _ => ?_) (fun _ => ?_)
    · refine ⟨_, rfl, p, _, _, _, rfl, rfl, SqL.of hp, at0 _ _ _, .inl ⟨_, rfl, _, rfl, _, _, rfl, rfl, h0, ?_⟩⟩
      refine ⟨_, rfl, p, _, _, _, rfl, rfl, SqL.of hp, at0 _ _ _, _, rfl, _, _, rfl, rfl, ⟨by omega, by omega⟩, ?_⟩
      refine ⟨_, rfl, p, _, _, 0, rfl, rfl, hp, rfl, ?_⟩
      exact ⟨_, rfl, k _ _ _ _ (Int.emod_nonneg _ (by omega)) (Int.emod_lt_of_pos _ h0)⟩
    · refine ⟨_, rfl, p, _, _, _, rfl, rfl, SqL.of hp, at2 _ _ _, _, _, rfl, rfl, _, rfl, p, _, _, 2, rfl, rfl, hp, rfl, ?_⟩
      refine ⟨_, rfl, p, _, _, _, rfl, rfl, SqL.of upd_same, at1 _ _ _, _, _, rfl, rfl, .inr ⟨by decide, by decide⟩, ?_⟩
      refine ⟨_, rfl, p, _, _, _, rfl, rfl, SqL.of upd_same, at2 _ _ _, _, _, rfl, rfl, .inr ⟨by decide, by decide⟩, ?_⟩
      refine ⟨_, _, rfl, rfl, _, _, rfl, rfl, .inl ⟨_, rfl, _, _, rfl, rfl, by show (0 : Int) < 2147483647; decide, ?_⟩⟩
      refine ⟨_, rfl, p, _, _, 1, rfl, rfl, upd_same, rfl, ?_⟩
      refine ⟨_, rfl, p, _, _, _, rfl, rfl, SqL.of upd_same, at1 _ _ _, _, _, rfl, rfl, ⟨by decide, by decide⟩, ?_⟩
      refine ⟨_, rfl, p, _, _, _, rfl, rfl, SqL.of upd_same, at1 _ _ _, _, _, rfl, rfl, .inl ⟨_, rfl, _, rfl, _, _, rfl, rfl, h0, ?_⟩⟩
      rw [upd_upd]
      exact k _ _ _ _ (Int.emod_nonneg _ (by omega)) (Int.emod_lt_of_pos _ h0)
end
end TW
namespace TW
open PySem PySem.Spec PyProof.Rows L2
/-- equal data, of one kind, nested at most n deep -/
inductive Tw (K : PySem.W.Frag) (H : Hp) : Nat → V → V → Prop where
  | non (n : Nat) : Tw K H n .non .non
  | bl (n : Nat) (b : Bool) : Tw K H n (.bl b) (.bl b)
  | int (n : Nat) (i : Int) : Tw K H n (.int i) (.int i)
  | str (n : Nat) (x : Str) : Tw K H n (.str x) (.str x)
  | lst {n : Nat} {a b : Addr} {xs ys : List V} (ha : SqL K H a xs) (hb : SqL K H b ys) (hl : xs.length = ys.length) (few : xs.length ≤ 1000) (each : ∀ (i : Nat) (x y : V), xs[i]? = some x → ys[i]? = some y → Tw K H n x y) : Tw K H (n + 1) (.ref a) (.ref b)
  | tup {n : Nat} {a b : Addr} {xs ys : List V} (ha : SqT K H a xs) (hb : SqT K H b ys) (hl : xs.length = ys.length) (few : xs.length ≤ 1000) (each : ∀ (i : Nat) (x y : V), xs[i]? = some x → ys[i]? = some y → Tw K H n x y) : Tw K H (n + 1) (.ref a) (.ref b)
/-- lists and tuples stand as they stood -/
structure Seqs (K : PySem.W.Frag) (H H' : Hp) : Prop where
  l : ∀ {a : Addr} {xs : List V}, SqL K H a xs → SqL K H' a xs
  t : ∀ {a : Addr} {xs : List V}, SqT K H a xs → SqT K H' a xs
section
variable {K : PySem.W.Frag} {H H' : Hp}
theorem Seqs.of (e : Same H H') : Seqs K H H' := ⟨fun h => e.seq h, fun h => seqT_same e h⟩
theorem Tw.keep {n : Nat} {x y : V} (e : Seqs K H H') (h : Tw K H n x y) : Tw K H' n x y := by
  induction h with
  | non n => exact .non n
  | bl n b => exact .bl n b
  | int n i => exact .int n i
  | str n x => exact .str n x
  | lst ha hb hl few _ ih => exact .lst (e.l ha) (e.l hb) hl few fun i x y h1 h2 => ih i x y h1 h2
  | tup ha hb hl few _ ih => exact .tup (e.t ha) (e.t hb) hl few fun i x y h1 h2 => ih i x y h1 h2
theorem Tw.same {n : Nat} {x y : V} (e : Same H H') (h : Tw K H n x y) : Tw K H' n x y := h.keep (.of e)
end
/-- x is neither a list nor a tuple: what isinstance says of it -/
structure Flat (K : PySem.W.Frag) (x : V) (T : String) (isN : Bool) : Prop where
  ty : ∀ H, TyX K H x (.type T)
  sc : scal x x = true
  seq : kitAB T ["list", "tuple"] = some false
  num : kitAB T ["bool", "int"] = some isN
  int : isN = true → kitB T "int" = some true
  bool : isN = true → ∃ b, kitB T "bool" = some b
  four : isN = false → kitAB T ["bool", "int", "list", "tuple"] = some false
theorem Tw.kinds {K : PySem.W.Frag} {H : Hp} {n : Nat} {x y : V} (h : Tw K H n x y) : (y = x ∧ ∃ T num, Flat K x T num) ∨
    (∃ m a b xs ys, n = m + 1 ∧ x = .ref a ∧ y = .ref b ∧ xs.length = ys.length ∧ xs.length ≤ 1000 ∧ (∀ (i : Nat) (x y : V), xs[i]? = some x → ys[i]? = some y → Tw K H m x y) ∧
      ((SqL K H a xs ∧ SqL K H b ys) ∨ (SqT K H a xs ∧ SqT K H b ys))) := by
  cases h with
  | non => exact .inl ⟨rfl, "NoneType", false, ⟨fun _ => .base .non, rfl, by decide +kernel, by decide +kernel, fun z => (nomatch z), fun z => (nomatch z), fun _ => by decide +kernel⟩⟩
  | bl _ b => exact .inl ⟨rfl, "bool", true, ⟨fun _ => .base (.bl b), rfl, by decide +kernel, by decide +kernel, fun _ => by decide +kernel, fun _ => ⟨true, by decide +kernel⟩, fun z => (nomatch z)⟩⟩
  | int _ i => exact .inl ⟨rfl, "int", true, ⟨fun _ => .base (.int i), rfl, by decide +kernel, by decide +kernel, fun _ => by decide +kernel, fun _ => ⟨false, by decide +kernel⟩, fun z => (nomatch z)⟩⟩
  | str _ s => exact .inl ⟨rfl, "str", false, ⟨fun _ => .base (.str s), rfl, by decide +kernel, by decide +kernel, fun z => (nomatch z), fun z => (nomatch z), fun _ => by decide +kernel⟩⟩
  | lst ha hb hl few each => exact .inr ⟨_, _, _, _, _, rfl, rfl, rfl, hl, few, each, .inl ⟨ha, hb⟩⟩
  | tup ha hb hl few each => exact .inr ⟨_, _, _, _, _, rfl, rfl, rfl, hl, few, each, .inr ⟨ha, hb⟩⟩
theorem four_sz : 4 ≤ sizeLine := by
  rw [sizeLine_eq]
  decide
/-- a tuple of names as a comprehension's target -/
theorem pg_tupB {X : Cx} {s : Shared} {H : Hp} {scope : Scope} {env : Env} {fp : List Addr} {es : List Expr} {k n : Nat} {t : TGs} {pos : Pos} (hc : (X.blk s H scope env fp).calm = true) (h : PGs (X.blk s H scope env fp) es t)
    (hn : (assignEach es (X.blk s H scope env fp).env).length = n := by rfl) (hst : (assignEach es (X.blk s H scope env fp).env).findIdx? (·.1) = none := by rfl) : PG (X.blk s H scope env fp) (.Tuple es k pos) (gTup X.K n t) :=
  pg_tup (X := X.blk s H scope env fp) hc h hn hst
/-- the law's own same: True of equal data of one kind -/
def spSame (K : PySem.W.Frag) (n : Nat) : Sp := fun vs H Q _ => ∃ x y : V, vs = [x, y] ∧ Tw K H n x y ∧ ∀ H', Same H H' → Q (.bl true) H'
abbrev sSame : Stmt := top 67
section
variable {P : Program} {w : World} {K : PySem.W.Frag} {mg : Str → Option Value} {base : Heap}
theorem scSame : FnScope ["_law_found", "_law_due", "_law_left", "_law_right"] ["_law_found", "_law_due"] (defScope sSame) := ⟨rfl, rfl, rfl, by decide +kernel, rfl, by decide +kernel, by decide +kernel⟩
theorem same_body {f : Addr} {fd : FuncData} {n k : Nat} {spR : Sp} (F : Fun K "_law_same" "_law_same" sSame f fd) (B : Blt mg) (hm : mg "_law_same" = some (.ref f)) (bS : Binds K fd ["_law_found", "_law_due"] [])
    (R : FnOk P w K mg base CX0 k f fd ["_law_found", "_law_due"] spR) (hR : ∀ m, n = m + 1 → spR = spSame K m) : FnOk P w K mg base CX0 (k + 1) f fd ["_law_found", "_law_due"] (spSame K n) := by
  refine F.ok scSame (fun vs H Q E h => ?_) (fun cdv A outer s H vs Q E hr h => ?_)
  · obtain ⟨x, y, rfl, _⟩ := h
    rfl
  · obtain ⟨x, y, rfl, hT, kQ⟩ := h
    refine ⟨_, pss_cons (ps_if (pt_val (pe_callB call_isiT (by rfl) B.isi (by decide +kernel) (pa_cons (pv 1) (pa_cons (pe_tup (pa_cons (pe_bltn (v := .ty "list") (by rfl) B.list (by decide +kernel) rfl) (pa_cons (pe_bltn (v := .ty "tuple") (by rfl) B.tuple (by decide +kernel) rfl) pa_nil))) pa_nil))))
        (pss_cons (ps_if (PW.pt (pw_or (pt_cmpR op_ne (pe_callB call_isi (by rfl) B.isi (by decide +kernel) (pa_cons (pv 0) (pa_cons (pe_bltn (v := .ty "list") (by rfl) B.list (by decide +kernel) rfl) pa_nil))) (pe_callB call_isi (by rfl) B.isi (by decide +kernel) (pa_cons (pv 1) (pa_cons (pe_bltn (v := .ty "list") (by rfl) B.list (by decide +kernel) rfl) pa_nil))) (nomark _))
            (pw_or1 (pt_cmpR op_ne (pe_callB call_isi (by rfl) B.isi (by decide +kernel) (pa_cons (pv 0) (pa_cons (pe_bltn (v := .ty "tuple") (by rfl) B.tuple (by decide +kernel) rfl) pa_nil))) (pe_callB call_isi (by rfl) B.isi (by decide +kernel) (pa_cons (pv 1) (pa_cons (pe_bltn (v := .ty "tuple") (by rfl) B.tuple (by decide +kernel) rfl) pa_nil))) (nomark _)))))
          (pss_one (ps_ret pe_bl)) pss_nil)
        (pss_one (ps_ret (pe_and (pe_cmpR op_eq (pe_callB call_len_seq (by rfl) B.len PySem.boot_len (pa_cons (pv 0) pa_nil)) (pe_callB call_len_seq (by rfl) B.len PySem.boot_len (pa_cons (pv 1) pa_nil)) (nomark _))
          (pe_one (pe_callB (cr_all rfl) (by rfl) B.all (by decide +kernel) (pa_cons
            (pe_lc (own := [("_law_left", 2), ("_law_right", 3)]) rfl scSame.nd (RZ.pi_zipA (by rfl) B.zip (pa_cons (pv 0) (pa_cons (pv 1) pa_nil))) (blkOk_by (N := ["_law_found", "_law_due", "_law_left", "_law_right"]) (sc := defScope sSame) (by decide +kernel))
              (fun _ _ _ _ _ => pg_tupB (n := 2) rfl (pgs_cons (pg_name (i := 2) scSame.nd rfl (Or.inl rfl)) (pgs_cons (pg_name (i := 3) scSame.nd rfl (Or.inl rfl)) pgs_nil))) (fun _ _ _ _ _ => pts_nil)
              (fun _ _ _ _ _ => pe_call R hr rfl hm F.kp bS .nil pass0 (pa_cons (pv 2) (pa_cons (pv 3) pa_nil)))) pa_nil)))))))
        pss_nil)
      (pss_cons (ps_if (pt_val (pe_callB call_isiT (by rfl) B.isi (by decide +kernel) (pa_cons (pv 1) (pa_cons (pe_tup (pa_cons (pe_bltn (v := .ty "bool") (by rfl) B.bool (by decide +kernel) rfl) (pa_cons (pe_bltn (v := .ty "int") (by rfl) B.int (by decide +kernel) rfl) pa_nil))) pa_nil))))
        (pss_one (ps_ret (pe_and (pe_callB call_isi (by rfl) B.isi (by decide +kernel) (pa_cons (pv 0) (pa_cons (pe_bltn (v := .ty "int") (by rfl) B.int (by decide +kernel) rfl) pa_nil)))
          (pe_and (pe_cmpR op_eq (pe_callB call_isi (by rfl) B.isi (by decide +kernel) (pa_cons (pv 0) (pa_cons (pe_bltn (v := .ty "bool") (by rfl) B.bool (by decide +kernel) rfl) pa_nil))) (pe_callB call_isi (by rfl) B.isi (by decide +kernel) (pa_cons (pv 1) (pa_cons (pe_bltn (v := .ty "bool") (by rfl) B.bool (by decide +kernel) rfl) pa_nil))) (nomark _))
            (pe_one (pe_cmpR op_eq (pv 0) (pv 1) (nomark _))))))) pss_nil)
      (pss_one (ps_ret (pe_and (pe_not (pe_callB call_isiT (by rfl) B.isi (by decide +kernel) (pa_cons (pv 0) (pa_cons (pe_tup (pa_cons (pe_bltn (v := .ty "bool") (by rfl) B.bool (by decide +kernel) rfl) (pa_cons (pe_bltn (v := .ty "int") (by rfl) B.int (by decide +kernel) rfl) (pa_cons (pe_bltn (v := .ty "list") (by rfl) B.list (by decide +kernel) rfl) (pa_cons (pe_bltn (v := .ty "tuple") (by rfl) B.tuple (by decide +kernel) rfl) pa_nil))))) pa_nil))))
        (pe_one (pe_cmpR op_eq (pv 0) (pv 1) (nomark _))))))), ?_⟩
    rcases hT.kinds with ⟨rfl, T, num, Fl⟩ | ⟨m, a, b, xs, ys, rfl, rfl, rfl, hl, few, each, hs⟩
    · -- neither a list nor a tuple
      refine ⟨_, rfl, two_sz, fun p hp => ?_⟩
      refine ⟨_, p, _, _, [.type "list", .type "tuple"], _, rfl, upd_same, .cons (.ty _) (.cons (.ty _) .nil), Fl.ty _, kitA (cs := ["list", "tuple"]) Fl.seq, _, rfl, ?_⟩
      refine iteF ?_
      refine ⟨_, rfl, two_sz, fun p2 hp2 => ?_⟩
      refine ⟨_, p2, _, _, [.type "bool", .type "int"], _, rfl, upd_same, .cons (.ty _) (.cons (.ty _) .nil), Fl.ty _, kitA (cs := ["bool", "int"]) Fl.num, _, rfl, ?_⟩
      have s2 : Same H (upd (upd H p (.tup [.ty "list", .ty "tuple"])) p2 (.tup [.ty "bool", .ty "int"])) := (same_new hp).trans (same_new hp2)
      cases num with
      | true =>
        refine iteT ?_
        obtain ⟨bb, hbb⟩ := Fl.bool rfl
        refine ⟨_, rfl, _, _, _, _, _, rfl, .ty _, Fl.ty _, kit_ty (Fl.int rfl), _, rfl, ?_⟩
        refine iteT ?_
        refine ⟨_, rfl, _, _, _, _, _, rfl, .ty _, Fl.ty _, kit_ty hbb, _, rfl, _, _, _, _, _, rfl, .ty _, Fl.ty _, kit_ty hbb, rfl, _, rfl, ?_⟩
        refine iteD rfl ?_
        refine ⟨_, rfl, _, rfl, Fl.sc, ?_⟩
        rw [decide_eq_true rfl]
        exact kQ _ s2
      | false =>
        refine iteF ?_
        refine ⟨_, rfl, four_sz, fun p3 hp3 => ?_⟩
        refine ⟨_, p3, _, _, [.type "bool", .type "int", .type "list", .type "tuple"], _, rfl, upd_same, .cons (.ty _) (.cons (.ty _) (.cons (.ty _) (.cons (.ty _) .nil))), Fl.ty _, kitA (cs := ["bool", "int", "list", "tuple"]) (Fl.four rfl), _, rfl, _, rfl, ?_⟩
        refine iteT ?_
        refine ⟨_, rfl, _, rfl, Fl.sc, ?_⟩
        rw [decide_eq_true rfl]
        exact kQ _ (s2.trans (same_new hp3))
    · -- a list or a tuple, both
      have hRm := hR m rfl
      subst hRm
      obtain ⟨T, b1, b2, hTs, e1, e2, tyA, tyB⟩ : ∃ (T : String) (b1 b2 : Bool), kitAB T ["list", "tuple"] = some true ∧ kitB T "list" = some b1 ∧ kitB T "tuple" = some b2 ∧ (∀ H', Same H H' → TyX K H' (.ref a) (.type T)) ∧ (∀ H', Same H H' → TyX K H' (.ref b) (.type T)) := by
        rcases hs with ⟨ha, hb⟩ | ⟨ha, hb⟩
        · exact ⟨"list", true, false, by decide +kernel, by decide +kernel, by decide +kernel, fun H' e => tyx_list (e.seq ha), fun H' e => tyx_list (e.seq hb)⟩
        · exact ⟨"tuple", false, true, by decide +kernel, by decide +kernel, by decide +kernel, fun H' e => tyx_tup (seqT_same e ha), fun H' e => tyx_tup (seqT_same e hb)⟩
      refine ⟨_, rfl, two_sz, fun p hp => ?_⟩
      have s1 : Same H (upd H p (.tup [.ty "list", .ty "tuple"])) := same_new hp
      refine ⟨_, p, _, _, [.type "list", .type "tuple"], _, rfl, upd_same, .cons (.ty _) (.cons (.ty _) .nil), tyB _ s1, kitA (cs := ["list", "tuple"]) hTs, _, rfl, ?_⟩
      refine iteT ?_
      refine ⟨_, rfl, _, _, _, _, _, rfl, .ty _, tyA _ s1, kit_ty e1, _, rfl, _, _, _, _, _, rfl, .ty _, tyB _ s1, kit_ty e1, rfl, _, rfl, ?_⟩
      refine iteNS rfl ?_
      refine ⟨_, rfl, _, _, _, _, _, rfl, .ty _, tyA _ s1, kit_ty e2, _, rfl, _, _, _, _, _, rfl, .ty _, tyB _ s1, kit_ty e2, rfl, _, rfl, ?_⟩
      refine iteNS rfl ?_
      rcases hs with ⟨ha, hb⟩ | ⟨ha, hb⟩
      · refine ⟨_, rfl, a, _, rfl, .inl (s1.seq ha), _, rfl, b, _, rfl, .inl (s1.seq hb), rfl, _, rfl, ?_⟩
        refine iteD (by rw [hl]) ?_
        refine ⟨_, rfl, _, rfl, a, b, xs, ys, rfl, .inl ⟨s1.seq ha, s1.seq hb, fun D hD => ?_⟩⟩
        refine lc_it (walk_zip rfl) (fun i H' => Same (upd H p (.tup [.ty "list", .ty "tuple"])) H' ∧ H' D = some (.lst (List.replicate i (.bl true)))) ⟨same_new hD, upd_same⟩ (fun i H' _ z => ⟨z.1.seq (s1.seq ha), z.1.seq (s1.seq hb)⟩) ?_ ?_
        · rintro i v H' H'' hi ⟨z, hd⟩ ⟨T', x, y, rfl, hT', rfl, hx, hy⟩
          refine ⟨T', [x, y], rfl, SqT.of upd_same, rfl, x, [y], rfl, y, [], rfl, rfl, rfl, ?_⟩
          unfold tYes
          dsimp only
          refine iteT ?_
          refine ⟨_, rfl, _, rfl, x, y, rfl, (each i x y hx hy).same (s1.trans (z.trans (same_new hT'))), fun H4 s4 => ?_⟩
          refine ⟨_, s4 _ _ (same_new hT' _ _ hd), ?_, fun c o e => ?_, ?_⟩
          · rw [List.length_replicate, sizeLine_eq]
            omega
          · rw [upd_ne (ne_of_none e hD)]
            exact s4 c o (same_new hT' c o (z c o e))
          · rw [upd_same, List.replicate_succ']
        · rintro H' ⟨z, hd⟩
          refine ⟨D, List.replicate (min xs.length ys.length) true, rfl, SqL.of (by rw [List.map_replicate]; exact hd), ?_⟩
          have e : (List.replicate (min xs.length ys.length) true).all id = true := by simp
          rw [e]
          exact kQ _ (s1.trans z)
      · refine ⟨_, rfl, a, _, rfl, .inr (seqT_same s1 ha), _, rfl, b, _, rfl, .inr (seqT_same s1 hb), rfl, _, rfl, ?_⟩
        refine iteD (by rw [hl]) ?_
        refine ⟨_, rfl, _, rfl, a, b, xs, ys, rfl, .inr ⟨seqT_same s1 ha, seqT_same s1 hb, fun D hD => ?_⟩⟩
        refine lc_it (walk_zipT rfl) (fun i H' => Same (upd H p (.tup [.ty "list", .ty "tuple"])) H' ∧ H' D = some (.lst (List.replicate i (.bl true)))) ⟨same_new hD, upd_same⟩ (fun i H' _ z => ⟨seqT_same z.1 (seqT_same s1 ha), seqT_same z.1 (seqT_same s1 hb)⟩) ?_ ?_
        · rintro i v H' H'' hi ⟨z, hd⟩ ⟨T', x, y, rfl, hT', rfl, hx, hy⟩
          refine ⟨T', [x, y], rfl, SqT.of upd_same, rfl, x, [y], rfl, y, [], rfl, rfl, rfl, ?_⟩
          unfold tYes
          dsimp only
          refine iteT ?_
          refine ⟨_, rfl, _, rfl, x, y, rfl, (each i x y hx hy).same (s1.trans (z.trans (same_new hT'))), fun H4 s4 => ?_⟩
          refine ⟨_, s4 _ _ (same_new hT' _ _ hd), ?_, fun c o e => ?_, ?_⟩
          · rw [List.length_replicate, sizeLine_eq]
            omega
          · rw [upd_ne (ne_of_none e hD)]
            exact s4 c o (same_new hT' c o (z c o e))
          · rw [upd_same, List.replicate_succ']
        · rintro H' ⟨z, hd⟩
          refine ⟨D, List.replicate (min xs.length ys.length) true, rfl, SqL.of (by rw [List.map_replicate]; exact hd), ?_⟩
          have e : (List.replicate (min xs.length ys.length) true).all id = true := by simp
          rw [e]
          exact kQ _ (s1.trans z)
theorem ok_lsame {f : Addr} {fd : FuncData} (F : Fun K "_law_same" "_law_same" sSame f fd) (B : Blt mg) (hm : mg "_law_same" = some (.ref f)) (bS : Binds K fd ["_law_found", "_law_due"] []) :
    ∀ n : Nat, FnOk P w K mg base CX0 (n + 1) f fd ["_law_found", "_law_due"] (spSame K n)
  | 0 => same_body (k := 0) F B hm bS fn_never fun m e => nomatch e
  | n + 1 => same_body (k := n + 1) F B hm bS (ok_lsame F B hm bS n) fun m e => by
    cases e
    rfl
end
end TW
namespace TW
open PySem PySem.Spec PyProof.Rows L2
abbrev sPick : Stmt := top 66
/-- one of some things -/
def spPick (K : PySem.W.Frag) : Sp := fun vs H Q _ => ∃ (p l : Addr) (a b c : Int) (xs : List V), vs = [.ref p, .ref l] ∧ H p = some (.lst [.int a, .int b, .int c]) ∧ SqL K H l xs ∧ 0 < xs.length ∧ xs.length ≤ 1000 ∧ (∀ a' b' c' : Int, SqL K (upd H p (.lst [.int a', .int b', .int c'])) l xs) ∧
  ∀ (j : Nat) (v : V) (a' b' c' : Int), xs[j]? = some v → Q v (upd H p (.lst [.int a', .int b', .int c']))
section
variable {P : Program} {w : World} {K : PySem.W.Frag} {mg : Str → Option Value} {base : Heap}
theorem scPick : FnScope ["_law_draws", "_law_xs"] ["_law_draws", "_law_xs"] (defScope sPick) := ⟨rfl, rfl, rfl, by decide +kernel, rfl, by decide +kernel, by decide +kernel⟩
theorem ok_pick {f fD : Addr} {fd fdD : FuncData} (F : Fun K "_law_pick" "_law_pick" sPick f fd) (B : Blt mg) (GD : FnOk P w K mg base CX0 1 fD fdD ["_law_draws", "_law_many"] spDraw) (mD : mg "_law_draw" = some (.ref fD)) (kD : PySem.W.keepIn K (.ref fD) = true) (bD : Binds K fdD ["_law_draws", "_law_many"] []) :
    FnOk P w K mg base CX0 2 f fd ["_law_draws", "_law_xs"] (spPick K) := by
  refine F.ok scPick (fun vs H Q E h => ?_) (fun cdv A outer s H vs Q E hr h => ?_)
  · obtain ⟨p, l, a, b, c, xs, rfl, _⟩ := h
    rfl
  · obtain ⟨p, l, a, b, c, xs, rfl, hp, hl, h0, h1, kp, k⟩ := h
    refine ⟨_, pss_one (ps_ret (pe_ix ix_list (pv 1) (pe_call GD hr rfl mD kD bD .nil pass0 (pa_cons (pv 0) (pa_cons (pe_callB call_len_seq (by rfl) B.len PySem.boot_len (pa_cons (pv 1) pa_nil)) pa_nil))) (fun _ _ => rfl))), ?_⟩
    refine ⟨_, rfl, _, rfl, _, rfl, l, xs, rfl, .inl hl, p, a, b, c, (xs.length : Nat), rfl, hp, by omega, by omega, fun r a' b' c' r0 r1 => ?_⟩
    obtain ⟨j, rfl, hj⟩ : ∃ j : Nat, r = (j : Int) ∧ j < xs.length := ⟨r.toNat, by omega, by omega⟩
    exact ⟨l, xs, _, _, rfl, rfl, kp a' b' c', atI_nat (j := j) (List.getElem?_eq_getElem hj), k j _ a' b' c' (List.getElem?_eq_getElem hj)⟩
end
end TW
namespace TW
open PySem PySem.Spec PyProof.Rows L2
/-- a value, nested at most n deep, with what it is -/
inductive VD (K : PySem.W.Frag) (H : Hp) : Nat → V → PyData → Prop where
  | non (n : Nat) : VD K H n .non .none
  | bl (n : Nat) (b : Bool) : VD K H n (.bl b) (.bool b)
  | int (n : Nat) (i : Int) : VD K H n (.int i) (.int i)
  | str (n : Nat) (x : Str) (ok : PyData.canLay0 (.str x) = true) : VD K H n (.str x) (.str x)
  | tup {n : Nat} {a : Addr} {xs : List V} {ds : List PyData} (h : SqT K H a xs) (hl : xs.length = ds.length) (few : xs.length ≤ 1000) (each : ∀ (i : Nat) (x : V) (d : PyData), xs[i]? = some x → ds[i]? = some d → VD K H n x d) : VD K H (n + 1) (.ref a) (.tuple ds)
section
variable {K : PySem.W.Frag} {H H' : Hp}
theorem VD.tk {n : Nat} {x : V} {d : PyData} (e : TK K H H') (h : VD K H n x d) : VD K H' n x d := by
  induction h with
  | non n => exact .non n
  | bl n b => exact .bl n b
  | int n i => exact .int n i
  | str n x ok => exact .str n x ok
  | tup h hl few _ ih => exact .tup (e _ _ h) hl few fun i x d h1 h2 => ih i x d h1 h2
theorem VD.vn {n : Nat} {x : V} {d : PyData} (h : VD K H n x d) : Vn K H n x true := by
  induction h with
  | non n => exact .non n
  | bl n b => exact .bl n b
  | int n i => exact .int n i
  | str n x ok => exact .str n x
  | @tup n a xs ds h hl few _ ih =>
    have z := Vn.tup (n := n) (bs := List.replicate xs.length true) h (by rw [List.length_replicate]) few fun i x b h1 h2 => by
      have hi := (List.getElem?_eq_some_iff.mp h1).1
      obtain ⟨d, hd⟩ : ∃ d, ds[i]? = some d := ⟨_, List.getElem?_eq_getElem (hl ▸ hi)⟩
      have e : b = true := by
        rw [List.getElem?_replicate, if_pos hi] at h2
        exact (Option.some.inj h2).symm
      rw [e]
      exact ih i x d h1 hd
    have e : (List.replicate xs.length true).all id = true := by simp
    rw [e] at z
    exact z
theorem VD.vns {n : Nat} {x : V} {d : PyData} (h : VD K H n x d) : VnS K H n x := fun _ e => (h.tk e).vn
theorem VD.tw {n : Nat} {x : V} {d : PyData} (h : VD K H n x d) : ∀ {y : V}, VD K H n y d → Tw K H n x y := by
  induction h with
  | non n => intro y q; cases q; exact .non n
  | bl n b => intro y q; cases q; exact .bl n b
  | int n i => intro y q; cases q; exact .int n i
  | str n x ok => intro y q; cases q; exact .str n x
  | @tup n a xs ds h hl few each ih =>
    intro y q
    cases q with
    | tup h2 hl2 few2 each2 =>
      refine .tup h h2 (by rw [hl, hl2]) few fun i x y h1 h3 => ?_
      obtain ⟨d, hd⟩ : ∃ d, ds[i]? = some d := ⟨_, List.getElem?_eq_getElem (hl ▸ (List.getElem?_eq_some_iff.mp h1).1)⟩
      exact ih i x d h1 hd (each2 i y d h3 hd)
theorem dpAll_at : ∀ {xs : List V} {ds : List PyData}, xs.length = ds.length → (∀ (i : Nat) (x : V) (d : PyData), xs[i]? = some x → ds[i]? = some d → Dp K H x d) → DpAll K H xs ds
  | [], [], _, _ => .nil
  | x :: xs, d :: ds, h, q => .cons (q 0 x d rfl rfl) (dpAll_at (Nat.succ.inj h) fun i x d h1 h2 => q (i + 1) x d h1 h2)
  | [], _ :: _, h, _ => nomatch h
  | _ :: _, [], h, _ => nomatch h
theorem VD.dp {n : Nat} {x : V} {d : PyData} (h : VD K H n x d) : Dp K H x d := by
  induction h with
  | non n => exact .non
  | bl n b => exact .bl b
  | int n i => exact .int i
  | str n x ok => exact .str x
  | tup h hl few _ ih => exact .tup h (dpAll_at hl ih)
theorem lay_all : ∀ {ds : List PyData}, (∀ (i : Nat) (d : PyData), ds[i]? = some d → d.canLay0 = true) → PyData.canLayAll0 ds = true
  | [], _ => rfl
  | d :: ds, q => by
    unfold PyData.canLayAll0
    rw [q 0 d rfl, lay_all fun i d h => q (i + 1) d h]
    rfl
theorem VD.lay {n : Nat} {x : V} {d : PyData} (h : VD K H n x d) : d.canLay0 = true := by
  induction h with
  | non n => rfl
  | bl n b => rfl
  | int n i => rfl
  | str n x ok => exact ok
  | @tup n a xs ds h hl few _ ih =>
    unfold PyData.canLay0
    exact lay_all fun i d hd => by
      obtain ⟨x, hx⟩ : ∃ x, xs[i]? = some x := ⟨_, List.getElem?_eq_getElem (hl ▸ (List.getElem?_eq_some_iff.mp hd).1)⟩
      exact ih i x d hx hd
theorem depth_all {n : Nat} : ∀ {ds : List PyData}, (∀ (i : Nat) (d : PyData), ds[i]? = some d → d.depth ≤ n) → PyData.depthAll ds ≤ n
  | [], _ => Nat.zero_le _
  | d :: ds, q => by
    unfold PyData.depthAll
    exact Nat.max_le.mpr ⟨q 0 d rfl, depth_all fun i d h => q (i + 1) d h⟩
theorem VD.depth {n : Nat} {x : V} {d : PyData} (h : VD K H n x d) : d.depth ≤ n := by
  induction h with
  | non n => exact Nat.zero_le _
  | bl n b => exact Nat.zero_le _
  | int n i => exact Nat.zero_le _
  | str n x ok => exact Nat.zero_le _
  | @tup n a xs ds h hl few _ ih =>
    unfold PyData.depth
    exact Nat.succ_le_succ (depth_all fun i d hd => by
      obtain ⟨x, hx⟩ : ∃ x, xs[i]? = some x := ⟨_, List.getElem?_eq_getElem (hl ▸ (List.getElem?_eq_some_iff.mp hd).1)⟩
      exact ih i x d hx hd)
theorem VD.shaped {n : Nat} {x : V} {d : PyData} (h : VD K H n x d) (hn : n ≤ 64) : SeqAt.shaped d = true := by
  unfold SeqAt.shaped
  rw [h.lay, decide_eq_true (Nat.le_trans h.depth hn)]
  rfl
end
def isT : PyData → Bool
  | .tuple _ => true
  | _ => false
def isB : PyData → Bool
  | .bool _ => true
  | _ => false
def isN : PyData → Bool
  | .bool _ => true
  | .int _ => true
  | _ => false
mutual
def sameD : PyData → PyData → Bool
  | .tuple xs, .tuple ys => sameAll xs ys
  | .none, .none => true
  | .bool a, .bool b => a == b
  | .int a, .int b => a == b
  | .str a, .str b => a == b
  | _, _ => false
def sameAll : List PyData → List PyData → Bool
  | [], [] => true
  | x :: xs, y :: ys => sameD x y && sameAll xs ys
  | _, _ => false
end
theorem sameAll_len : ∀ {xs ys : List PyData}, xs.length ≠ ys.length → sameAll xs ys = false
  | [], [], h => absurd rfl h
  | [], _ :: _, _ => rfl
  | _ :: _, [], _ => rfl
  | x :: xs, y :: ys, h => by
    unfold sameAll
    rw [sameAll_len fun e => h (congrArg (· + 1) e), Bool.and_false]
theorem sameAll_zip : ∀ {xs ys : List PyData}, xs.length = ys.length → sameAll xs ys = ((xs.zip ys).map fun p => sameD p.1 p.2).all id
  | [], [], _ => rfl
  | [], _ :: _, h => nomatch h
  | _ :: _, [], h => nomatch h
  | x :: xs, y :: ys, h => by
    unfold sameAll
    rw [sameAll_zip (Nat.succ.inj h)]
    rfl
section
variable {K : PySem.W.Frag} {H H' : Hp}
theorem sameD_kinds {n m : Nat} {x y : V} {d e : PyData} (h : VD K H n x d) (g : VD K H m y e) (no : (isT d && isT e) = false) : sameD d e = ((isB d == isB e) && PyData.eqv d e) := by
  cases h <;> cases g <;> first | rfl | (simp [isT] at no; done) | (simp [sameD, PyData.eqv, isB])
theorem sameD_num {n m : Nat} {x y : V} {d e : PyData} (h : VD K H n x d) (g : VD K H m y e) (no : isT e = false) (nm : isN e = true) : sameD d e = (isN d && ((isB d == isB e) && PyData.eqv d e)) := by
  cases h <;> cases g <;> first | rfl | (simp [isT] at no; done) | (simp [isN] at nm; done) | (simp [sameD, PyData.eqv, isB, isN])
theorem sameD_oth {n m : Nat} {x y : V} {d e : PyData} (h : VD K H n x d) (g : VD K H m y e) (no : isT e = false) (nm : isN e = false) : sameD d e = (!(isN d || isT d) && PyData.eqv d e) := by
  cases h <;> cases g <;> first | rfl | (simp [isT] at no; done) | (simp [isN] at nm; done) | (simp [sameD, PyData.eqv, isN, isT])
/-- what isinstance says of a value -/
theorem VD.kinds {n : Nat} {x : V} {d : PyData} (h : VD K H n x d) : ∃ T, (∀ H', Same H H' → TyX K H' x (.type T)) ∧ kitB T "list" = some false ∧ kitB T "tuple" = some (isT d) ∧ kitB T "bool" = some (isB d) ∧ kitB T "int" = some (isN d) ∧
    kitAB T ["list", "tuple"] = some (isT d) ∧ kitAB T ["bool", "int"] = some (isN d) ∧ kitAB T ["bool", "int", "list", "tuple"] = some (isN d || isT d) := by
  cases h with
  | non => exact ⟨"NoneType", fun _ _ => .base .non, (by decide +kernel : kitB "NoneType" "list" = some false), (by decide +kernel : kitB "NoneType" "tuple" = some false), (by decide +kernel : kitB "NoneType" "bool" = some false), (by decide +kernel : kitB "NoneType" "int" = some false), (by decide +kernel : kitAB "NoneType" ["list", "tuple"] = some false), (by decide +kernel : kitAB "NoneType" ["bool", "int"] = some false), (by decide +kernel : kitAB "NoneType" ["bool", "int", "list", "tuple"] = some false)⟩
  | bl _ b => exact ⟨"bool", fun _ _ => .base (.bl b), (by decide +kernel : kitB "bool" "list" = some false), (by decide +kernel : kitB "bool" "tuple" = some false), (by decide +kernel : kitB "bool" "bool" = some true), (by decide +kernel : kitB "bool" "int" = some true), (by decide +kernel : kitAB "bool" ["list", "tuple"] = some false), (by decide +kernel : kitAB "bool" ["bool", "int"] = some true), (by decide +kernel : kitAB "bool" ["bool", "int", "list", "tuple"] = some true)⟩
  | int _ i => exact ⟨"int", fun _ _ => .base (.int i), (by decide +kernel : kitB "int" "list" = some false), (by decide +kernel : kitB "int" "tuple" = some false), (by decide +kernel : kitB "int" "bool" = some false), (by decide +kernel : kitB "int" "int" = some true), (by decide +kernel : kitAB "int" ["list", "tuple"] = some false), (by decide +kernel : kitAB "int" ["bool", "int"] = some true), (by decide +kernel : kitAB "int" ["bool", "int", "list", "tuple"] = some true)⟩
  | str _ s => exact ⟨"str", fun _ _ => .base (.str s), (by decide +kernel : kitB "str" "list" = some false), (by decide +kernel : kitB "str" "tuple" = some false), (by decide +kernel : kitB "str" "bool" = some false), (by decide +kernel : kitB "str" "int" = some false), (by decide +kernel : kitAB "str" ["list", "tuple"] = some false), (by decide +kernel : kitAB "str" ["bool", "int"] = some false), (by decide +kernel : kitAB "str" ["bool", "int", "list", "tuple"] = some false)⟩
  | tup h => exact ⟨"tuple", fun _ e => tyx_tup (seqT_same e h), (by decide +kernel : kitB "tuple" "list" = some false), (by decide +kernel : kitB "tuple" "tuple" = some true), (by decide +kernel : kitB "tuple" "bool" = some false), (by decide +kernel : kitB "tuple" "int" = some false), (by decide +kernel : kitAB "tuple" ["list", "tuple"] = some true), (by decide +kernel : kitAB "tuple" ["bool", "int"] = some false), (by decide +kernel : kitAB "tuple" ["bool", "int", "list", "tuple"] = some true)⟩
/-- whether two values are the same -/
def RD (K : PySem.W.Frag) (n : Nat) (H : Hp) (x y : V) (b : Bool) : Prop := ∃ d e, VD K H n x d ∧ VD K H n y e ∧ b = sameD d e
theorem RD.tk {n : Nat} {x y : V} {b : Bool} (e : TK K H H') (h : RD K n H x y b) : RD K n H' x y b := by
  obtain ⟨d, e', h1, h2, h3⟩ := h
  exact ⟨d, e', h1.tk e, h2.tk e, h3⟩
theorem RD.keeps {n : Nat} : Keeps (RD K n) := fun _ _ _ _ _ e h => h.tk (.of e)
end
end TW
namespace TW
open PySem PySem.Spec PyProof.Rows L2
theorem zip_all {K : PySem.W.Frag} {H : Hp} {n : Nat} {xs ys : List V} {ds es : List PyData} (h1 : ∀ (i : Nat) (x : V) (d : PyData), xs[i]? = some x → ds[i]? = some d → VD K H n x d) (h2 : ∀ (i : Nat) (x : V) (d : PyData), ys[i]? = some x → es[i]? = some d → VD K H n x d) (l1 : xs.length = ds.length) (l2 : ys.length = es.length) {i : Nat} {x y : V} (hx : xs[i]? = some x) (hy : ys[i]? = some y) :
    ∃ d e, VD K H n x d ∧ VD K H n y e ∧ ((ds.zip es).map fun p => sameD p.1 p.2)[i]? = some (sameD d e) := by
  obtain ⟨d, hd⟩ : ∃ d, ds[i]? = some d := ⟨_, List.getElem?_eq_getElem (l1 ▸ (List.getElem?_eq_some_iff.mp hx).1)⟩
  obtain ⟨e, he⟩ : ∃ e, es[i]? = some e := ⟨_, List.getElem?_eq_getElem (l2 ▸ (List.getElem?_eq_some_iff.mp hy).1)⟩
  refine ⟨d, e, h1 i x d hx hd, h2 i y e hy he, ?_⟩
  rw [List.getElem?_map, (List.getElem?_zip_eq_some (z := (d, e))).mpr ⟨hd, he⟩]
  rfl
theorem sameD_nt {d : PyData} {es : List PyData} (h : isT d = false) : sameD d (.tuple es) = false := by
  cases d <;> first | rfl | (simp [isT] at h; done)
section
variable {P : Program} {w : World} {K : PySem.W.Frag} {mg : Str → Option Value} {base : Heap}
theorem smd_body {f : Addr} {fd : FuncData} {n k : Nat} {spR : Sp} (hn : n ≤ 60) (F : Fun K "same" "same" sSm f fd) (B : Blt mg) (hm : mg "same" = some (.ref f)) (bS : Binds K fd ["one", "other"] [])
    (R : FnOk P w K mg base CX0 k f fd ["one", "other"] spR) (hR : ∀ m, n = m + 1 → spR = spSm (RD K m)) : FnOk P w K mg base CX0 (k + 1) f fd ["one", "other"] (spSm (RD K n)) := by
  refine F.ok scSm (fun vs H Q E h => ?_) (fun cdv A outer s H vs Q E hr h => ?_)
  · obtain ⟨x, y, b, rfl, _⟩ := h
    rfl
  · obtain ⟨x, y, b, rfl, ⟨d, e, hx, hy, rfl⟩, kQ⟩ := h
    have hu := hu_of hr
    refine ⟨_, pss_cons (ps_if (PW.pt (pw_and (pt_val (pe_callB call_isi (by rfl) B.isi (by decide +kernel) (pa_cons (pv 0) (pa_cons (pe_bltn (v := .ty "tuple") (by rfl) B.tuple (by decide +kernel) rfl) pa_nil))))
          (pw_and1 (pt_val (pe_callB call_isi (by rfl) B.isi (by decide +kernel) (pa_cons (pv 1) (pa_cons (pe_bltn (v := .ty "tuple") (by rfl) B.tuple (by decide +kernel) rfl) pa_nil)))))))
        (pss_cons (ps_if (pt_cmpR op_ne (pe_callB call_len_seq (by rfl) B.len PySem.boot_len (pa_cons (pv 0) pa_nil)) (pe_callB call_len_seq (by rfl) B.len PySem.boot_len (pa_cons (pv 1) pa_nil)) (nomark _)) (pss_one (ps_ret pe_bl)) pss_nil)
        (pss_one (ps_ret (pe_callB (cr_all rfl) (by rfl) B.all (by decide +kernel) (pa_cons
          (pe_lc (own := [("inner", 2), ("partner", 3)]) rfl scSm.nd (RZ.pi_zipA (by rfl) B.zip (pa_cons (pv 0) (pa_cons (pv 1) pa_nil))) (blkOk_by (N := ["one", "other", "inner", "partner"]) (sc := defScope sSm) (by decide +kernel))
            (fun _ _ _ _ _ => pg_tupC (n := 2) rfl (pgs_cons (pg_name (i := 2) scSm.nd rfl (Or.inl rfl)) (pgs_cons (pg_name (i := 3) scSm.nd rfl (Or.inl rfl)) pgs_nil))) (fun _ _ _ _ _ => pts_nil)
            (fun _ _ _ _ _ => pe_call R hr rfl hm F.kp bS .nil pass0 (pa_cons (pv 2) (pa_cons (pv 3) pa_nil)))) pa_nil))))) pss_nil)
      (pss_one (ps_ret (pe_and (pe_cmpR op_eq (pe_callB call_isi (by rfl) B.isi (by decide +kernel) (pa_cons (pv 0) (pa_cons (pe_bltn (v := .ty "bool") (by rfl) B.bool (by decide +kernel) rfl) pa_nil))) (pe_callB call_isi (by rfl) B.isi (by decide +kernel) (pa_cons (pv 1) (pa_cons (pe_bltn (v := .ty "bool") (by rfl) B.bool (by decide +kernel) rfl) pa_nil))) (nomark _))
        (pe_one (pe_cmpR (op_eqD hr.units) (pv 0) (pv 1) (nomark _)))))), ?_⟩
    by_cases c : (isT d && isT e) = true
    · cases hx with
      | @tup m a xs ds ha hl few ex =>
        cases hy with
        | @tup _ cc ys es hc hl2 few2 ey =>
          have e := hR m rfl
          subst e
          refine ⟨_, rfl, _, _, _, _, _, rfl, .ty _, tyx_tup ha, kit_ty (r := true) (by decide +kernel), _, rfl, ?_⟩
          refine iteT ?_
          refine ⟨_, rfl, _, _, _, _, _, rfl, .ty _, tyx_tup hc, kit_ty (r := true) (by decide +kernel), _, rfl, ?_⟩
          refine iteT ?_
          refine ⟨_, rfl, a, _, rfl, .inr ha, _, rfl, cc, _, rfl, .inr hc, rfl, _, rfl, ?_⟩
          have u : sameD (.tuple ds) (.tuple es) = sameAll ds es := by
            unfold sameD
            rfl
          rw [u] at kQ
          by_cases eq : xs.length = ys.length
          · rw [decide_eq_true (by rw [eq])]
            refine iteF ?_
            have lz : ((ds.zip es).map fun p => sameD p.1 p.2).length = xs.length := by
              rw [List.length_map, List.length_zip]
              omega
            rw [sameAll_zip (by omega)] at kQ
            refine ⟨_, rfl, _, rfl, a, cc, xs, ys, rfl, .inr ⟨ha, hc, fun D hD => ?_⟩⟩
            refine lc_it (walk_zipT rfl) (fun i H' => Same H H' ∧ H' D = some (.lst ((((ds.zip es).map fun p => sameD p.1 p.2).take i).map V.bl))) ⟨same_new hD, upd_same⟩ (fun i H' _ z => ⟨seqT_same z.1 ha, seqT_same z.1 hc⟩) ?_ ?_
            · rintro i v H' H'' hi ⟨z, hd⟩ ⟨T', x, y, rfl, hT', rfl, hx, hy⟩
              obtain ⟨d, e, vd, ve, eb⟩ := zip_all ex ey hl hl2 hx hy
              refine ⟨T', [x, y], rfl, SqT.of upd_same, rfl, x, [y], rfl, y, [], rfl, rfl, rfl, ?_⟩
              unfold tYes
              dsimp only
              refine iteT ?_
              have tk := TK.of (K := K) (z.trans (same_new (o := .tup [x, y]) hT'))
              refine ⟨_, rfl, _, rfl, x, y, _, rfl, ⟨d, e, vd.tk tk, ve.tk tk, rfl⟩, fun H4 s4 => ?_⟩
              refine ⟨_, s4 _ _ (same_new hT' _ _ hd), ?_, fun c o e => ?_, ?_⟩
              · rw [List.length_map, List.length_take]
                exact Nat.lt_of_lt_of_le (Nat.lt_succ_of_le (Nat.le_trans (Nat.min_le_right _ _) (lz ▸ few))) (small_sz (by decide))
              · rw [upd_ne (ne_of_none e hD)]
                exact s4 c o (same_new hT' c o (z c o e))
              · rw [upd_same, take_one eb, List.map_append]
                rfl
            · rintro H' ⟨z, hd⟩
              rw [show min xs.length ys.length = ((ds.zip es).map fun p => sameD p.1 p.2).length by omega, List.take_length] at hd
              exact ⟨D, _, rfl, SqL.of hd, kQ _ z⟩
          · rw [decide_eq_false (by intro z; apply eq; have := V.int.inj z; omega)]
            rw [sameAll_len (by omega)] at kQ
            exact iteT (kQ _ (Same.refl _))
        | _ => exact absurd c (by simp [isT])
      | _ => exact absurd c (by simp [isT])
    · have c := Bool.eq_false_iff.mpr c
      rw [sameD_kinds hx hy c] at kQ
      obtain ⟨T, tx, _, k1, b1, _⟩ := hx.kinds
      obtain ⟨U, ty, _, k2, b2, _⟩ := hy.kinds
      have fin := kQ _ (Same.refl _)
      have last : ∀ {σ : L2.St}, True := fun {_} => trivial
      refine ⟨_, rfl, _, _, _, _, _, rfl, .ty _, tx _ (Same.refl _), kit_ty k1, _, rfl, ?_⟩
      have dx := hx.dp
      have dy := hy.dp
      have sx := hx.shaped (by omega)
      have sy := hy.shaped (by omega)
      generalize isT d = t1 at *
      generalize isT e = t2 at *
      cases t1 with
      | false =>
        refine iteF (iteF ?_)
        refine ⟨_, rfl, _, _, _, _, _, rfl, .ty _, tx _ (Same.refl _), kit_ty b1, _, rfl, _, _, _, _, _, rfl, .ty _, ty _ (Same.refl _), kit_ty b2, rfl, _, rfl, ?_⟩
        by_cases q : isB d = isB e
        · refine iteD (by rw [q]) ?_
          have e0 : (isB d == isB e) = true := by simpa using q
          rw [e0, Bool.true_and] at fin
          exact ⟨_, rfl, _, rfl, d, e, dx, dy, sx, sy, fin⟩
        · rw [decide_eq_false (fun z => q (V.bl.inj z))]
          have e0 : (isB d == isB e) = false := by simpa using q
          rw [e0, Bool.false_and] at fin
          exact iteF fin
      | true =>
        refine iteT ?_
        have e2 : t2 = false := c
        subst e2
        refine ⟨_, rfl, _, _, _, _, _, rfl, .ty _, ty _ (Same.refl _), kit_ty k2, _, rfl, ?_⟩
        refine iteF ?_
        refine ⟨_, rfl, _, _, _, _, _, rfl, .ty _, tx _ (Same.refl _), kit_ty b1, _, rfl, _, _, _, _, _, rfl, .ty _, ty _ (Same.refl _), kit_ty b2, rfl, _, rfl, ?_⟩
        by_cases q : isB d = isB e
        · refine iteD (by rw [q]) ?_
          have e0 : (isB d == isB e) = true := by simpa using q
          rw [e0, Bool.true_and] at fin
          exact ⟨_, rfl, _, rfl, d, e, dx, dy, sx, sy, fin⟩
        · rw [decide_eq_false (fun z => q (V.bl.inj z))]
          have e0 : (isB d == isB e) = false := by simpa using q
          rw [e0, Bool.false_and] at fin
          exact iteF fin
theorem ok_sameD {f : Addr} {fd : FuncData} (F : Fun K "same" "same" sSm f fd) (B : Blt mg) (hm : mg "same" = some (.ref f)) (bS : Binds K fd ["one", "other"] []) : ∀ n, n ≤ 60 → FnOk P w K mg base CX0 (n + 1) f fd ["one", "other"] (spSm (RD K n))
  | 0, _ => smd_body (spR := fun _ _ _ _ => False) (Nat.zero_le _) F B hm bS fn_never (fun m e => nomatch e)
  | n + 1, h => smd_body h F B hm bS (ok_sameD F B hm bS n (by omega)) (fun m e => by cases e; rfl)
/-- the law's own same, of two values -/
theorem lsd_body {f : Addr} {fd : FuncData} {n k : Nat} {spR : Sp} (hn : n ≤ 60) (F : Fun K "_law_same" "_law_same" sSame f fd) (B : Blt mg) (hm : mg "_law_same" = some (.ref f)) (bS : Binds K fd ["_law_found", "_law_due"] [])
    (R : FnOk P w K mg base CX0 k f fd ["_law_found", "_law_due"] spR) (hR : ∀ m, n = m + 1 → spR = spSm (RD K m)) : FnOk P w K mg base CX0 (k + 1) f fd ["_law_found", "_law_due"] (spSm (RD K n)) := by
  refine F.ok scSame (fun vs H Q E h => ?_) (fun cdv A outer s H vs Q E hr h => ?_)
  · obtain ⟨x, y, b, rfl, _⟩ := h
    rfl
  · obtain ⟨x, y, b, rfl, ⟨d, e, hx, hy, rfl⟩, kQ⟩ := h
    have hu := hu_of hr
    refine ⟨_, pss_cons (ps_if (pt_val (pe_callB call_isiT (by rfl) B.isi (by decide +kernel) (pa_cons (pv 1) (pa_cons (pe_tup (pa_cons (pe_bltn (v := .ty "list") (by rfl) B.list (by decide +kernel) rfl) (pa_cons (pe_bltn (v := .ty "tuple") (by rfl) B.tuple (by decide +kernel) rfl) pa_nil))) pa_nil))))
        (pss_cons (ps_if (PW.pt (pw_or (pt_cmpR op_ne (pe_callB call_isi (by rfl) B.isi (by decide +kernel) (pa_cons (pv 0) (pa_cons (pe_bltn (v := .ty "list") (by rfl) B.list (by decide +kernel) rfl) pa_nil))) (pe_callB call_isi (by rfl) B.isi (by decide +kernel) (pa_cons (pv 1) (pa_cons (pe_bltn (v := .ty "list") (by rfl) B.list (by decide +kernel) rfl) pa_nil))) (nomark _))
            (pw_or1 (pt_cmpR op_ne (pe_callB call_isi (by rfl) B.isi (by decide +kernel) (pa_cons (pv 0) (pa_cons (pe_bltn (v := .ty "tuple") (by rfl) B.tuple (by decide +kernel) rfl) pa_nil))) (pe_callB call_isi (by rfl) B.isi (by decide +kernel) (pa_cons (pv 1) (pa_cons (pe_bltn (v := .ty "tuple") (by rfl) B.tuple (by decide +kernel) rfl) pa_nil))) (nomark _)))))
          (pss_one (ps_ret pe_bl)) pss_nil)
        (pss_one (ps_ret (pe_and (pe_cmpR op_eq (pe_callB call_len_seq (by rfl) B.len PySem.boot_len (pa_cons (pv 0) pa_nil)) (pe_callB call_len_seq (by rfl) B.len PySem.boot_len (pa_cons (pv 1) pa_nil)) (nomark _))
          (pe_one (pe_callB (cr_all rfl) (by rfl) B.all (by decide +kernel) (pa_cons
            (pe_lc (own := [("_law_left", 2), ("_law_right", 3)]) rfl scSame.nd (RZ.pi_zipA (by rfl) B.zip (pa_cons (pv 0) (pa_cons (pv 1) pa_nil))) (blkOk_by (N := ["_law_found", "_law_due", "_law_left", "_law_right"]) (sc := defScope sSame) (by decide +kernel))
              (fun _ _ _ _ _ => pg_tupB (n := 2) rfl (pgs_cons (pg_name (i := 2) scSame.nd rfl (Or.inl rfl)) (pgs_cons (pg_name (i := 3) scSame.nd rfl (Or.inl rfl)) pgs_nil))) (fun _ _ _ _ _ => pts_nil)
              (fun _ _ _ _ _ => pe_call R hr rfl hm F.kp bS .nil pass0 (pa_cons (pv 2) (pa_cons (pv 3) pa_nil)))) pa_nil)))))))
        pss_nil)
      (pss_cons (ps_if (pt_val (pe_callB call_isiT (by rfl) B.isi (by decide +kernel) (pa_cons (pv 1) (pa_cons (pe_tup (pa_cons (pe_bltn (v := .ty "bool") (by rfl) B.bool (by decide +kernel) rfl) (pa_cons (pe_bltn (v := .ty "int") (by rfl) B.int (by decide +kernel) rfl) pa_nil))) pa_nil))))
        (pss_one (ps_ret (pe_and (pe_callB call_isi (by rfl) B.isi (by decide +kernel) (pa_cons (pv 0) (pa_cons (pe_bltn (v := .ty "int") (by rfl) B.int (by decide +kernel) rfl) pa_nil)))
          (pe_and (pe_cmpR op_eq (pe_callB call_isi (by rfl) B.isi (by decide +kernel) (pa_cons (pv 0) (pa_cons (pe_bltn (v := .ty "bool") (by rfl) B.bool (by decide +kernel) rfl) pa_nil))) (pe_callB call_isi (by rfl) B.isi (by decide +kernel) (pa_cons (pv 1) (pa_cons (pe_bltn (v := .ty "bool") (by rfl) B.bool (by decide +kernel) rfl) pa_nil))) (nomark _))
            (pe_one (pe_cmpR (op_eqD hr.units) (pv 0) (pv 1) (nomark _))))))) pss_nil)
      (pss_one (ps_ret (pe_and (pe_not (pe_callB call_isiT (by rfl) B.isi (by decide +kernel) (pa_cons (pv 0) (pa_cons (pe_tup (pa_cons (pe_bltn (v := .ty "bool") (by rfl) B.bool (by decide +kernel) rfl) (pa_cons (pe_bltn (v := .ty "int") (by rfl) B.int (by decide +kernel) rfl) (pa_cons (pe_bltn (v := .ty "list") (by rfl) B.list (by decide +kernel) rfl) (pa_cons (pe_bltn (v := .ty "tuple") (by rfl) B.tuple (by decide +kernel) rfl) pa_nil))))) pa_nil))))
        (pe_one (pe_cmpR (op_eqD hr.units) (pv 0) (pv 1) (nomark _))))))), ?_⟩
    obtain ⟨T, tx, l1, k1, b1, i1, _, _, f1⟩ := hx.kinds
    obtain ⟨U, ty, l2, k2, b2, i2, q2, n2, _⟩ := hy.kinds
    refine ⟨_, rfl, two_sz, fun p hp => ?_⟩
    have s1 : Same H (upd H p (.tup [.ty "list", .ty "tuple"])) := same_new hp
    refine ⟨_, p, _, _, [.type "list", .type "tuple"], _, rfl, upd_same, .cons (.ty _) (.cons (.ty _) .nil), ty _ s1, kitA (cs := ["list", "tuple"]) q2, _, rfl, ?_⟩
    generalize upd H p (.tup [.ty "list", .ty "tuple"]) = H1 at *
    by_cases ct : isT e = true
    · rw [ct]
      rw [ct] at k2
      refine iteT ?_
      refine ⟨_, rfl, _, _, _, _, _, rfl, .ty _, tx _ s1, kit_ty l1, _, rfl, _, _, _, _, _, rfl, .ty _, ty _ s1, kit_ty l2, rfl, _, rfl, ?_⟩
      refine iteNS rfl ?_
      refine ⟨_, rfl, _, _, _, _, _, rfl, .ty _, tx _ s1, kit_ty k1, _, rfl, _, _, _, _, _, rfl, .ty _, ty _ s1, kit_ty k2, rfl, _, rfl, ?_⟩
      cases hy with
      | @tup m cc ys es hc hl2 few2 ey =>
        by_cases cd : isT d = true
        · cases hx with
          | @tup _ a xs ds ha hl few ex =>
            have e := hR m rfl
            subst e
            refine iteNS rfl ?_
            refine ⟨_, rfl, a, _, rfl, .inr (seqT_same s1 ha), _, rfl, cc, _, rfl, .inr (seqT_same s1 hc), rfl, _, rfl, ?_⟩
            have u : sameD (.tuple ds) (.tuple es) = sameAll ds es := by
              unfold sameD
              rfl
            rw [u] at kQ
            by_cases eq : xs.length = ys.length
            · refine iteD (by rw [eq]) ?_
              have lz : ((ds.zip es).map fun p => sameD p.1 p.2).length = xs.length := by
                rw [List.length_map, List.length_zip]
                omega
              rw [sameAll_zip (by omega)] at kQ
              refine ⟨_, rfl, _, rfl, a, cc, xs, ys, rfl, .inr ⟨seqT_same s1 ha, seqT_same s1 hc, fun D hD => ?_⟩⟩
              refine lc_it (walk_zipT rfl) (fun i H' => Same H1 H' ∧ H' D = some (.lst ((((ds.zip es).map fun p => sameD p.1 p.2).take i).map V.bl))) ⟨same_new hD, upd_same⟩ (fun i H' _ z => ⟨seqT_same z.1 (seqT_same s1 ha), seqT_same z.1 (seqT_same s1 hc)⟩) ?_ ?_
              · rintro i v H' H'' hi ⟨z, hd⟩ ⟨T', x, y, rfl, hT', rfl, hx, hy⟩
                obtain ⟨d, e, vd, ve, eb⟩ := zip_all ex ey hl hl2 hx hy
                refine ⟨T', [x, y], rfl, SqT.of upd_same, rfl, x, [y], rfl, y, [], rfl, rfl, rfl, ?_⟩
                unfold tYes
                dsimp only
                refine iteT ?_
                have tk := TK.of (K := K) (s1.trans (z.trans (same_new (o := .tup [x, y]) hT')))
                refine ⟨_, rfl, _, rfl, x, y, _, rfl, ⟨d, e, vd.tk tk, ve.tk tk, rfl⟩, fun H4 s4 => ?_⟩
                refine ⟨_, s4 _ _ (same_new hT' _ _ hd), ?_, fun c o e => ?_, ?_⟩
                · rw [List.length_map, List.length_take]
                  exact Nat.lt_of_lt_of_le (Nat.lt_succ_of_le (Nat.le_trans (Nat.min_le_right _ _) (lz ▸ few))) (small_sz (by decide))
                · rw [upd_ne (ne_of_none e hD)]
                  exact s4 c o (same_new hT' c o (z c o e))
                · rw [upd_same, take_one eb, List.map_append]
                  rfl
              · rintro H' ⟨z, hd⟩
                rw [show min xs.length ys.length = ((ds.zip es).map fun p => sameD p.1 p.2).length by omega, List.take_length] at hd
                exact ⟨D, _, rfl, SqL.of hd, kQ _ (s1.trans z)⟩
            · rw [decide_eq_false (by intro z; apply eq; have := V.int.inj z; omega)]
              rw [sameAll_len (by omega)] at kQ
              exact iteF (kQ _ s1)
          | _ => exact absurd cd (by simp [isT])
        · have cd := Bool.eq_false_iff.mpr cd
          rw [sameD_nt cd] at kQ
          rw [cd]
          rw [decide_eq_false (by decide)]
          exact iteT (kQ _ s1)
      | _ => exact absurd ct (by simp [isT])
    · have ct := Bool.eq_false_iff.mpr ct
      rw [ct] at q2
      rw [ct]
      refine iteF ?_
      refine ⟨_, rfl, two_sz, fun p2 hp2 => ?_⟩
      have s2 : Same H (upd H1 p2 (.tup [.ty "bool", .ty "int"])) := s1.trans (same_new hp2)
      refine ⟨_, p2, _, _, [.type "bool", .type "int"], _, rfl, upd_same, .cons (.ty _) (.cons (.ty _) .nil), ty _ s2, kitA (cs := ["bool", "int"]) n2, _, rfl, ?_⟩
      generalize upd H1 p2 (.tup [.ty "bool", .ty "int"]) = H2 at *
      have tk := TK.of (K := K) s2
      have dx := (hx.tk tk).dp
      have dy := (hy.tk tk).dp
      have sx := hx.shaped (by omega)
      have sy := hy.shaped (by omega)
      by_cases nm : isN e = true
      · rw [nm]
        refine iteT ?_
        rw [sameD_num hx hy ct nm] at kQ
        have fin := kQ _ s2
        refine ⟨_, rfl, _, _, _, _, _, rfl, .ty _, tx _ s2, kit_ty i1, _, rfl, ?_⟩
        by_cases q : isN d = true
        · rw [q, Bool.true_and] at fin
          rw [q]
          refine iteT ?_
          refine ⟨_, rfl, _, _, _, _, _, rfl, .ty _, tx _ s2, kit_ty b1, _, rfl, _, _, _, _, _, rfl, .ty _, ty _ s2, kit_ty b2, rfl, _, rfl, ?_⟩
          by_cases q : isB d = isB e
          · refine iteD (by rw [q]) ?_
            have e0 : (isB d == isB e) = true := by simpa using q
            rw [e0, Bool.true_and] at fin
            exact ⟨_, rfl, _, rfl, d, e, dx, dy, sx, sy, fin⟩
          · rw [decide_eq_false (fun z => q (V.bl.inj z))]
            have e0 : (isB d == isB e) = false := by simpa using q
            rw [e0, Bool.false_and] at fin
            exact iteF fin
        · have q := Bool.eq_false_iff.mpr q
          rw [q, Bool.false_and] at fin
          rw [q]
          exact iteF fin
      · have nm := Bool.eq_false_iff.mpr nm
        rw [nm]
        refine iteF ?_
        rw [sameD_oth hx hy ct nm] at kQ
        refine ⟨_, rfl, four_sz, fun p3 hp3 => ?_⟩
        have s3 := s2.trans (same_new (o := .tup [.ty "bool", .ty "int", .ty "list", .ty "tuple"]) hp3)
        refine ⟨_, p3, _, _, [.type "bool", .type "int", .type "list", .type "tuple"], _, rfl, upd_same, .cons (.ty _) (.cons (.ty _) (.cons (.ty _) (.cons (.ty _) .nil))), tx _ s3, kitA (cs := ["bool", "int", "list", "tuple"]) f1, _, rfl, _, rfl, ?_⟩
        have fin := kQ _ s3
        have tk3 := TK.of (K := K) s3
        have dx := (hx.tk tk3).dp
        have dy := (hy.tk tk3).dp
        generalize upd H2 p3 (.tup [.ty "bool", .ty "int", .ty "list", .ty "tuple"]) = H3 at *
        by_cases q : (isN d || isT d) = true
        · rw [q] at fin
          rw [q]
          exact iteF fin
        · have q := Bool.eq_false_iff.mpr q
          rw [q] at fin
          rw [q]
          exact iteT ⟨_, rfl, _, rfl, d, e, dx, dy, sx, sy, fin⟩
theorem ok_lsameD {f : Addr} {fd : FuncData} (F : Fun K "_law_same" "_law_same" sSame f fd) (B : Blt mg) (hm : mg "_law_same" = some (.ref f)) (bS : Binds K fd ["_law_found", "_law_due"] []) : ∀ n, n ≤ 60 → FnOk P w K mg base CX0 (n + 1) f fd ["_law_found", "_law_due"] (spSm (RD K n))
  | 0, _ => lsd_body (spR := fun _ _ _ _ => False) (Nat.zero_le _) F B hm bS fn_never (fun m e => nomatch e)
  | n + 1, h => lsd_body h F B hm bS (ok_lsameD F B hm bS n (by omega)) (fun m e => by cases e; rfl)
end
end TW
namespace TW
open PySem PySem.Spec PyProof.Rows L2
/-- all but lists and instances stands -/
def DK (H H' : Hp) : Prop := ∀ b o, H b = some o → (∀ xs, o ≠ .lst xs) → (∀ c d fs, o ≠ .ins c d fs) → H' b = some o
theorem DK.of {H H' : Hp} (e : Same H H') : DK H H' := fun b o h _ _ => e b o h
theorem DK.trans {H H1 H2 : Hp} (a : DK H H1) (b : DK H1 H2) : DK H H2 := fun c o e n m => b c o (a c o e n m) n m
theorem DK.tk {K : PySem.W.Frag} {H H' : Hp} (e : DK H H') : TK K H H' := fun a xs q => by
  rcases q with (q | ⟨o, q⟩) | q
  · exact .inl (.inl (e _ _ q (fun _ z => (nomatch z)) fun _ _ _ z => (nomatch z)))
  · exact .inl (.inr ⟨o, e _ _ q (fun _ z => (nomatch z)) fun _ _ _ z => (nomatch z)⟩)
  · exact .inr q
/-- a value of the plan -/
def PV (K : PySem.W.Frag) (H0 : Hp) (v : V) : Prop := ∃ d, VD K H0 3 v d
theorem PV.tk {K : PySem.W.Frag} {H0 H : Hp} {v : V} (t : TK K H0 H) (h : PV K H0 v) : PV K H v := by
  obtain ⟨d, q⟩ := h
  exact ⟨d, q.tk t⟩
/-- belts: their names, and what lies on each -/
structure RowsD (K : PySem.W.Frag) (H : Hp) (kvs : List (Key × V)) (bk : List Str) (bc : Str → List V) : Prop where
  keys : kvs.map (·.1) = bk.map Sum.inr
  at_ : ∀ nm ∈ bk, ∃ a, valV kvs (Sum.inr nm) = some (.ref a) ∧ SqT K H a (bc nm)
theorem RowsD.tk {K : PySem.W.Frag} {H H' : Hp} {kvs : List (Key × V)} {bk : List Str} {bc : Str → List V} (t : TK K H H') (h : RowsD K H kvs bk bc) : RowsD K H' kvs bk bc :=
  ⟨h.keys, fun nm m => by
    obtain ⟨a, e1, e2⟩ := h.at_ nm m
    exact ⟨a, e1, t _ _ e2⟩⟩
def setB (bc : Str → List V) (nm : Str) (xs : List V) : Str → List V := fun s => if s = nm then xs else bc s
theorem keys_put {kvs : List (Key × V)} {k : Key} {v : V} (h : k ∈ kvs.map (·.1)) : (putK kvs k v).map (·.1) = kvs.map (·.1) := by
  unfold putK
  obtain ⟨p, hp, e⟩ := List.mem_map.mp h
  rw [if_pos (List.any_eq_true.mpr ⟨p, hp, decide_eq_true e⟩), List.map_map]
  refine List.map_congr_left fun q _ => ?_
  show (if q.1 = k then (q.1, v) else q).1 = q.1
  split <;> rfl
theorem len_put {kvs : List (Key × V)} {k : Key} {v : V} (h : k ∈ kvs.map (·.1)) : (putK kvs k v).length = kvs.length := by
  have z := congrArg List.length (keys_put (v := v) h)
  rw [List.length_map, List.length_map] at z
  exact z
theorem RowsD.mem {K : PySem.W.Frag} {H : Hp} {kvs : List (Key × V)} {bk : List Str} {bc : Str → List V} (h : RowsD K H kvs bk bc) {nm : Str} (m : nm ∈ bk) : (Sum.inr nm : Key) ∈ kvs.map (·.1) := by
  rw [h.keys]
  exact List.mem_map.mpr ⟨nm, m, rfl⟩
theorem RowsD.len {K : PySem.W.Frag} {H : Hp} {kvs : List (Key × V)} {bk : List Str} {bc : Str → List V} (h : RowsD K H kvs bk bc) : kvs.length = bk.length := by
  have z := congrArg List.length h.keys
  rw [List.length_map, List.length_map] at z
  exact z
theorem RowsD.put {K : PySem.W.Frag} {H : Hp} {kvs : List (Key × V)} {bk : List Str} {bc : Str → List V} {nm : Str} {a : Addr} {xs : List V} (h : RowsD K H kvs bk bc) (m : nm ∈ bk) (ha : SqT K H a xs) : RowsD K H (putK kvs (Sum.inr nm) (.ref a)) bk (setB bc nm xs) := by
  refine ⟨(keys_put (h.mem m)).trans h.keys, fun s ms => ?_⟩
  rw [valV_put]
  unfold setB
  by_cases c : s = nm
  · rw [if_pos (by rw [c]), if_pos c]
    exact ⟨a, rfl, ha⟩
  · rw [if_neg (fun z => c (Sum.inr.inj z)), if_neg c]
    exact h.at_ s ms
/-- a belt's tuple, as data -/
theorem pv_tup {K : PySem.W.Frag} {H : Hp} {a : Addr} : ∀ {xs : List V}, SqT K H a xs → (∀ v ∈ xs, PV K H v) → xs.length ≤ 1000 → ∃ ds, VD K H 4 (.ref a) (.tuple ds) ∧ xs.length = ds.length := fun {xs} ha hv few => by
  have all : ∀ xs : List V, (∀ v ∈ xs, PV K H v) → ∃ ds : List PyData, xs.length = ds.length ∧ ∀ (i : Nat) (x : V) (d : PyData), xs[i]? = some x → ds[i]? = some d → VD K H 3 x d := fun xs => by
    induction xs with
    | nil => exact fun _ => ⟨[], rfl, fun i x d h => (nomatch h)⟩
    | cons x l ih =>
      intro hv
      obtain ⟨d, hd⟩ := hv x (List.mem_cons_self ..)
      obtain ⟨ds, h1, h2⟩ := ih fun v m => hv v (List.mem_cons_of_mem _ m)
      refine ⟨d :: ds, congrArg (· + 1) h1, fun i y e a b => ?_⟩
      match i, a, b with
      | 0, a, b =>
        cases a
        cases b
        exact hd
      | i + 1, a, b => exact h2 i y e a b
  obtain ⟨ds, h1, h2⟩ := all xs hv
  exact ⟨ds, .tup ha h1 few h2, h1⟩
theorem empty_len {α β : Type} {xs : List α} {ds : List β} (h : xs.length = ds.length) : ds.isEmpty = xs.isEmpty := by
  cases xs <;> cases ds <;> first | rfl | cases h
theorem eqv_nil (ds : List PyData) : PyData.eqv (.tuple ds) (.tuple []) = ds.isEmpty := by
  cases ds <;> rfl

/-- a row of a plan of any kind: a wish, a word, an end, a leap over rows -/
inductive Rw where
  | ask (r : Row)
  | say (p : Part)
  | fail (p : Part)
  | back (p : Part)
  | skip (k : Int) (v : V) (far : Nat)
def RwAt (K : PySem.W.Frag) (H : Hp) (x : V) : Rw → Prop
  | .ask r => RowAt K H x r
  | .say p => ∃ t y, x = .ref t ∧ SqT K H t [.str "say", y] ∧ PartAt K H y p
  | .fail p => ∃ t y, x = .ref t ∧ SqT K H t [.str "fail", y] ∧ PartAt K H y p
  | .back p => ∃ t y, x = .ref t ∧ SqT K H t [.str "back", y] ∧ PartAt K H y p
  | .skip k v far => ∃ t, x = .ref t ∧ SqT K H t [.str "skip", .int k, v, .int (far : Nat)]
theorem RwAt.tk {K : PySem.W.Frag} {H H' : Hp} {x : V} {r : Rw} (e : TK K H H') (h : RwAt K H x r) : RwAt K H' x r := by
  cases r with
  | ask r => exact RowAt.tk e h
  | say p => exact h.imp fun t z => z.imp fun y z => ⟨z.1, e _ _ z.2.1, z.2.2.tk e⟩
  | fail p => exact h.imp fun t z => z.imp fun y z => ⟨z.1, e _ _ z.2.1, z.2.2.tk e⟩
  | back p => exact h.imp fun t z => z.imp fun y z => ⟨z.1, e _ _ z.2.1, z.2.2.tk e⟩
  | skip k v far => exact h.imp fun t z => ⟨z.1, e _ _ z.2⟩
/-- a list of rows -/
structure RowsAt (K : PySem.W.Frag) (H : Hp) (rl : Addr) (rows : List Rw) : Prop where
  ex : ∃ xs, H rl = some (.lst xs) ∧ xs.length = rows.length ∧ ∀ (i : Nat) (x : V) (r : Rw), xs[i]? = some x → rows[i]? = some r → RwAt K H x r
theorem RowsAt.same {K : PySem.W.Frag} {H H' : Hp} {rl : Addr} {rows : List Rw} (e : Same H H') (h : RowsAt K H rl rows) : RowsAt K H' rl rows := by
  obtain ⟨xs, h1, h2, h3⟩ := h.ex
  exact ⟨xs, e _ _ h1, h2, fun i x r a b => (h3 i x r a b).tk (TK.of e)⟩
/-- the names of a shop's things -/
structure Nms where
  cells : List Str
  locks : List Str
  belts : List Str
def WishOk (N : Nms) (kind name : Str) (args : List V) : Prop :=
  (kind = "rest" ∧ args = []) ∨ (kind = "look" ∧ name ∈ N.cells ∧ args = []) ∨ (kind = "put" ∧ name ∈ N.cells ∧ ∃ a, args = [a]) ∨ (kind = "swap" ∧ name ∈ N.cells ∧ ∃ a, args = [a]) ∨ (kind = "trade" ∧ name ∈ N.cells ∧ ∃ a b, args = [a, b]) ∨ (kind = "until" ∧ name ∈ N.cells ∧ ∃ a, args = [a]) ∨
  (kind = "take" ∧ name ∈ N.locks ∧ args = []) ∨ (kind = "give" ∧ name ∈ N.locks ∧ args = []) ∨ (kind = "reach" ∧ name ∈ N.locks ∧ args = []) ∨ (kind = "lay" ∧ name ∈ N.belts ∧ ∃ a, args = [a]) ∨ (kind = "fetch" ∧ name ∈ N.belts ∧ args = [])
/-- a wish, as it is told -/
def wishV (kind name : Str) (args : List V) : List V := if kind = ("rest" : Str) then [.str "rest"] else .str kind :: .str name :: args
theorem rowWish_eq (ns : List (Key × V)) (r : Row) : rowWish ns r = wishV r.kind r.name (r.parts.map (partV ns)) := rfl
def RwOk (K : PySem.W.Frag) (H : Hp) (N : Nms) : Rw → Prop
  | .ask r => (∀ args : List V, args.length = r.parts.length → WishOk N r.kind r.name args) ∧ r.parts.length ≤ 3 ∧ ∀ v, Part.value v ∈ r.parts → PV K H v
  | .say p => ∀ v, p = .value v → PV K H v
  | .fail p => ∀ v, p = .value v → PV K H v
  | .back p => ∀ v, p = .value v → PV K H v
  | .skip _ v _ => PV K H v
theorem RwOk.tk {K : PySem.W.Frag} {H H' : Hp} {N : Nms} {r : Rw} (t : TK K H H') (h : RwOk K H N r) : RwOk K H' N r := by
  cases r with
  | ask r => exact ⟨h.1, h.2.1, fun v m => (h.2.2 v m).tk t⟩
  | say p => exact fun v e => (h v e).tk t
  | fail p => exact fun v e => (h v e).tk t
  | back p => exact fun v e => (h v e).tk t
  | skip k v far => exact PV.tk t h
structure RowsOk (K : PySem.W.Frag) (H : Hp) (N : Nms) (rows : List Rw) : Prop where
  each : ∀ r ∈ rows, RwOk K H N r
  few : rows.length ≤ 900
theorem RowsOk.tk {K : PySem.W.Frag} {H H' : Hp} {N : Nms} {rows : List Rw} (t : TK K H H') (h : RowsOk K H N rows) : RowsOk K H' N rows := ⟨fun r m => (h.each r m).tk t, h.few⟩
/-- where a work stands -/
inductive Stop where
  | wish (kind name : Str) (args : List V)
  | told (v : V)
  | failed (v : V)
section
variable (sm : V → V → Bool)
/-- a work goes through its rows, with these answers: where it stands, what it has said -/
def runF : Nat → List Rw → List (Key × V) → List V → List V → Stop × List V
  | 0, _, _, said, _ => (.told .non, said)
  | _ + 1, [], _, said, _ => (.told .non, said)
  | n + 1, .say p :: rs, ns, said, ans => runF n rs ns (said ++ [partV ns p]) ans
  | _ + 1, .fail p :: _, ns, said, _ => (.failed (partV ns p), said)
  | _ + 1, .back p :: _, ns, said, _ => (.told (partV ns p), said)
  | n + 1, .skip k v far :: rs, ns, said, ans => if sm (noted ns k) v = true then runF n (rs.drop far) ns said ans else runF n rs ns said ans
  | _ + 1, .ask r :: _, ns, said, [] => (.wish r.kind r.name (r.parts.map (partV ns)), said)
  | n + 1, .ask r :: rs, ns, said, a :: as => runF n rs (putK ns (Sum.inl r.note) a) said as
/-- which locks the work holds behind an answer -/
def mineK (m : List (Key × V)) (kind nm : Str) (a : V) : List (Key × V) :=
  if kind = ("take" : Str) then putK m (Sum.inr nm) (.bl true) else if kind = ("give" : Str) then putK m (Sum.inr nm) (.bl false) else if kind = ("reach" : Str) ∧ a = .bl true then putK m (Sum.inr nm) (.bl true) else m
def heldM (m : List (Key × V)) (nm : Str) : Prop := (valV m (Sum.inr nm)).getD (.bl false) = .bl true
/-- the work gives but what it holds, and reaches are answered with truths -/
def playOk : Nat → List Rw → List (Key × V) → List (Key × V) → List V → Prop
  | 0, _, _, _, _ => True
  | _ + 1, [], _, _, _ => True
  | n + 1, .say _ :: rs, ns, m, ans => playOk n rs ns m ans
  | _ + 1, .fail _ :: _, _, _, _ => True
  | _ + 1, .back _ :: _, _, _, _ => True
  | n + 1, .skip k v far :: rs, ns, m, ans => if sm (noted ns k) v = true then playOk n (rs.drop far) ns m ans else playOk n rs ns m ans
  | _ + 1, .ask r :: _, _, m, [] => r.kind = ("give" : Str) → heldM m r.name
  | n + 1, .ask r :: rs, ns, m, a :: as => (r.kind = ("give" : Str) → heldM m r.name) ∧ (r.kind = ("reach" : Str) → ∃ c, a = .bl c) ∧ playOk n rs (putK ns (Sum.inl r.note) a) (mineK m r.kind r.name a) as
end
def standOf (sm : V → V → Bool) (rows : List Rw) (ans : List V) : Stop × List V := runF sm rows.length rows [] [] ans
/-- values compared -/
def SmOk (K : PySem.W.Frag) (H : Hp) (sm : V → V → Bool) : Prop := ∀ v x, PV K H v → PV K H x → RD K 3 H v x (sm v x)
theorem noted_nil (K : PySem.W.Frag) (H : Hp) (k : Int) : PV K H (noted [] k) := ⟨_, .int _ _⟩
theorem noted_putV {K : PySem.W.Frag} {H : Hp} {ns : List (Key × V)} {j : Int} {a : V} (h : ∀ k, PV K H (noted ns k)) (ha : PV K H a) (k : Int) : PV K H (noted (putK ns (Sum.inl j) a) k) := by
  unfold noted
  rw [valV_put]
  split
  · exact ha
  · exact h k
theorem part_pv {K : PySem.W.Frag} {H : Hp} {ns : List (Key × V)} {p : Part} (hn : ∀ k, PV K H (noted ns k)) (hv : ∀ v, p = .value v → PV K H v) : PV K H (partV ns p) := by
  cases p with
  | value v => exact hv v rfl
  | note k => exact hn k
  | plus k m =>
    show PV K H (match noted ns k with | .int i => .int (i + m) | v => v)
    have z := hn k
    generalize noted ns k = here at *
    cases here with
    | int i => exact ⟨_, .int _ _⟩
    | _ => exact z
theorem PV.num {K : PySem.W.Frag} {H : Hp} {v : V} (h : PV K H v) : NumT K H v := by
  obtain ⟨d, q⟩ := h
  exact numT_vn q.vn
theorem PV.vn {K : PySem.W.Frag} {H : Hp} {v : V} (h : PV K H v) : Vn K H 3 v true := by
  obtain ⟨d, q⟩ := h
  exact q.vn
/-- the law's things -/
structure Sto where
  cells : List (Key × V)
  holders : List (Key × V)
  bk : List Str
  bc : Str → List V
  sizes : List (Key × V)
def valD (kvs : List (Key × V)) (nm : Str) : V := (valV kvs (Sum.inr nm)).getD .non
def isNon : V → Bool
  | .non => true
  | _ => false
structure StoOk (K : PySem.W.Frag) (H : Hp) (N : Nms) (S : Sto) : Prop where
  ck : S.cells.map (·.1) = N.cells.map Sum.inr
  hk : S.holders.map (·.1) = N.locks.map Sum.inr
  bk : S.bk = N.belts
  cv : ∀ nm ∈ N.cells, PV K H (valD S.cells nm)
  hv : ∀ nm ∈ N.locks, valD S.holders nm = .non ∨ ∃ i, valD S.holders nm = .int i
  size : ∀ nm ∈ N.belts, ∃ z, valV S.sizes (Sum.inr nm) = some z ∧ (z = .non ∨ ∃ i, z = .int i)
  vals : ∀ nm ∈ N.belts, ∀ v ∈ S.bc nm, PV K H v
  len : ∀ nm ∈ N.belts, (S.bc nm).length ≤ 900
  few : N.cells.length ≤ 20 ∧ N.locks.length ≤ 20 ∧ N.belts.length ≤ 20
theorem StoOk.tk {K : PySem.W.Frag} {H H' : Hp} {N : Nms} {S : Sto} (t : TK K H H') (h : StoOk K H N S) : StoOk K H' N S := ⟨h.ck, h.hk, h.bk, fun nm m => (h.cv nm m).tk t, h.hv, h.size, fun nm m v hv => (h.vals nm m v hv).tk t, h.len, h.few⟩
theorem val_of {kvs : List (Key × V)} {l : List Str} {nm : Str} (h : kvs.map (·.1) = l.map Sum.inr) (m : nm ∈ l) : valV kvs (Sum.inr nm) = some (valD kvs nm) := by
  obtain ⟨v, hv⟩ := valV_mem (kvs := kvs) (k := Sum.inr nm) (by rw [h]; exact List.mem_map.mpr ⟨nm, m, rfl⟩)
  unfold valD
  rw [hv]
  rfl
theorem len_of {kvs : List (Key × V)} {l : List Str} (h : kvs.map (·.1) = l.map Sum.inr) : kvs.length = l.length := by
  have z := congrArg List.length h
  rw [List.length_map, List.length_map] at z
  exact z
structure StoreAt (K : PySem.W.Frag) (H : Hp) (st : Addr) (S : Sto) : Prop where
  ex : ∃ b h r z rk, SqT K H st [.ref b, .ref h, .ref r, .ref z] ∧ H b = some (.dK S.cells) ∧ H h = some (.dK S.holders) ∧ H r = some (.dK rk) ∧ RowsD K H rk S.bk S.bc ∧ H z = some (.dK S.sizes)
theorem StoreAt.dk {K : PySem.W.Frag} {H H' : Hp} {st : Addr} {S : Sto} (e : DK H H') (h : StoreAt K H st S) : StoreAt K H' st S := by
  obtain ⟨b, h', r, z, rk, h1, h2, h3, h4, h5, h6⟩ := h.ex
  exact ⟨b, h', r, z, rk, e.tk _ _ h1, e _ _ h2 (fun _ z => (nomatch z)) fun _ _ _ z => (nomatch z), e _ _ h3 (fun _ z => (nomatch z)) fun _ _ _ z => (nomatch z), e _ _ h4 (fun _ z => (nomatch z)) fun _ _ _ z => (nomatch z), h5.tk e.tk, e _ _ h6 (fun _ z => (nomatch z)) fun _ _ _ z => (nomatch z)⟩
theorem StoreAt.same {K : PySem.W.Frag} {H H' : Hp} {st : Addr} {S : Sto} (e : Same H H') (h : StoreAt K H st S) : StoreAt K H' st S := h.dk (.of e)
/-- whether a belt has room -/
def room (S : Sto) (nm : Str) : Bool := match valV S.sizes (Sum.inr nm) with
  | some (.int i) => decide (((S.bc nm).length : Int) < i)
  | _ => true
/-- whether a wish need not wait -/
def letsM (sm : V → V → Bool) (S : Sto) (kind nm : Str) (args : List V) : Bool :=
  if kind = ("until" : Str) then sm (valD S.cells nm) (args.headD .non) else if kind = ("take" : Str) then isNon (valD S.holders nm) else if kind = ("lay" : Str) then room S nm else if kind = ("fetch" : Str) then !(S.bc nm).isEmpty else true
/-- what a wish answers and leaves -/
inductive DoM (sm : V → V → Bool) (S : Sto) (k : V) (nm : Str) : Str → List V → V → Sto → Prop
  | rest : DoM sm S k nm "rest" [] .non S
  | until_ {x : V} : DoM sm S k nm "until" [x] .non S
  | look : DoM sm S k nm "look" [] (valD S.cells nm) S
  | put {x : V} : DoM sm S k nm "put" [x] .non { S with cells := putK S.cells (Sum.inr nm) x }
  | swap {x : V} : DoM sm S k nm "swap" [x] (valD S.cells nm) { S with cells := putK S.cells (Sum.inr nm) x }
  | tradeN {x y : V} (h : sm (valD S.cells nm) x = false) : DoM sm S k nm "trade" [x, y] (.bl false) S
  | tradeY {x y : V} (h : sm (valD S.cells nm) x = true) : DoM sm S k nm "trade" [x, y] (.bl true) { S with cells := putK S.cells (Sum.inr nm) y }
  | take : DoM sm S k nm "take" [] .non { S with holders := putK S.holders (Sum.inr nm) k }
  | give : DoM sm S k nm "give" [] .non { S with holders := putK S.holders (Sum.inr nm) .non }
  | reachN (h : isNon (valD S.holders nm) = false) : DoM sm S k nm "reach" [] (.bl false) S
  | reachY (h : isNon (valD S.holders nm) = true) : DoM sm S k nm "reach" [] (.bl true) { S with holders := putK S.holders (Sum.inr nm) k }
  | lay {x : V} : DoM sm S k nm "lay" [x] .non { S with bc := setB S.bc nm (S.bc nm ++ [x]) }
  | fetch {x : V} {r : List V} (h : S.bc nm = x :: r) : DoM sm S k nm "fetch" [] x { S with bc := setB S.bc nm r }
theorem tk_dK {K : PySem.W.Frag} {H : Hp} {d : Addr} {c c' : List (Key × V)} (h : H d = some (.dK c)) : TK K H (upd H d (.dK c')) := fun _ _ q => sqT_but h (fun _ z => (nomatch z)) (fun _ _ z => (nomatch z)) But.put q
section
variable {sm : V → V → Bool} {n : Nat} {rs : List Rw} {ns m : List (Key × V)} {said ans : List V}
theorem runF_nil : runF sm n [] ns said ans = (.told .non, said) := by cases n <;> rfl
theorem runF_say {p : Part} : runF sm (n + 1) (.say p :: rs) ns said ans = runF sm n rs ns (said ++ [partV ns p]) ans := rfl
theorem runF_fail {p : Part} : runF sm (n + 1) (.fail p :: rs) ns said ans = (.failed (partV ns p), said) := rfl
theorem runF_back {p : Part} : runF sm (n + 1) (.back p :: rs) ns said ans = (.told (partV ns p), said) := rfl
theorem runF_skip {k : Int} {v : V} {far : Nat} : runF sm (n + 1) (.skip k v far :: rs) ns said ans = if sm (noted ns k) v = true then runF sm n (rs.drop far) ns said ans else runF sm n rs ns said ans := rfl
theorem runF_wish {r : Row} : runF sm (n + 1) (.ask r :: rs) ns said [] = (.wish r.kind r.name (r.parts.map (partV ns)), said) := rfl
theorem runF_ask {r : Row} {a : V} {as : List V} : runF sm (n + 1) (.ask r :: rs) ns said (a :: as) = runF sm n rs (putK ns (Sum.inl r.note) a) said as := rfl
theorem playOk_say {p : Part} : playOk sm (n + 1) (.say p :: rs) ns m ans = playOk sm n rs ns m ans := rfl
theorem playOk_skip {k : Int} {v : V} {far : Nat} : playOk sm (n + 1) (.skip k v far :: rs) ns m ans = if sm (noted ns k) v = true then playOk sm n (rs.drop far) ns m ans else playOk sm n rs ns m ans := rfl
theorem playOk_wish {r : Row} : playOk sm (n + 1) (.ask r :: rs) ns m [] = (r.kind = ("give" : Str) → heldM m r.name) := rfl
theorem playOk_ask {r : Row} {a : V} {as : List V} : playOk sm (n + 1) (.ask r :: rs) ns m (a :: as) = ((r.kind = ("give" : Str) → heldM m r.name) ∧ (r.kind = ("reach" : Str) → ∃ c, a = .bl c) ∧ playOk sm n rs (putK ns (Sum.inl r.note) a) (mineK m r.kind r.name a) as) := rfl
end
theorem put_len {ns : List (Key × V)} {k : Key} {v : V} : (putK ns k v).length ≤ ns.length + 1 := by
  unfold putK
  split
  · rw [List.length_map]
    omega
  · rw [List.length_append]
    exact Nat.le_refl _
theorem mine_len {m : List (Key × V)} {kind nm : Str} {a : V} : (mineK m kind nm a).length ≤ m.length + 1 := by
  unfold mineK
  split
  · exact put_len
  · split
    · exact put_len
    · split
      · exact put_len
      · omega
/-- a dict besides the hand is written -/
theorem HandAt.put {K : PySem.W.Frag} {C : Addr} {H : Hp} {hd dx nd : Addr} {h : HS} {ns ms : List (Key × V)} (A : HandAt K C H hd dx h) (d1 : hd ≠ nd) (d2 : h.md ≠ nd) (d3 : h.wl ≠ nd) (hn : H nd = some (.dK ns)) : HandAt K C (upd H nd (.dK ms)) hd dx h :=
  ⟨(upd_ne d1).trans A.ob, sqT_but hn (fun _ z => (nomatch z)) (fun _ _ z => (nomatch z)) But.put A.a, (upd_ne d2).trans A.m, (upd_ne d3).trans A.w⟩
end TW
namespace TW
open PySem PySem.Spec PyProof.Rows L2 LamX
theorem isNon_t {v : V} (h : isNon v = true) : v = .non := by
  cases v <;> first | rfl | cases h
/-- the things of a run are as the law's -/
structure ThM (K : PySem.W.Frag) (H : Hp) (T : TS) (S : Sto) : Prop where
  c : T.cells = S.cells
  h : T.holders = S.holders
  r : RowsD K H T.rows S.bk S.bc
  z : T.sizes = S.sizes
theorem ThM.tk {K : PySem.W.Frag} {H H' : Hp} {T : TS} {S : Sto} (t : TK K H H') (h : ThM K H T S) : ThM K H' T S := ⟨h.c, h.h, h.r.tk t, h.z⟩
structure Disj (N : Nms) : Prop where
  cl : ∀ nm, nm ∈ N.cells → nm ∉ N.locks
  cb : ∀ nm, nm ∈ N.cells → nm ∉ N.belts
  lb : ∀ nm, nm ∈ N.locks → nm ∉ N.belts
def ButT (T : TS) (G G' : Hp) : Prop := ∀ b o, b ≠ T.cd → b ≠ T.hd → b ≠ T.rd → G b = some o → G' b = some o
/-- what a step answers and leaves in the things -/
def DoesT (K : PySem.W.Frag) (w : World) (CT pS : Addr) (S : Addr → Option Sp) (me : Int) (pend : V) (H : Hp) (T : TS) (a : V) (S' : Sto) : Prop :=
  ∀ (T2 : TS) (t2 : Addr) (G : Hp) (Q : VK), TK K H G → ThingsAt K CT G t2 T2 → T2.cells = T.cells → T2.holders = T.holders → T2.rows = T.rows → T2.sizes = T.sizes → T2.cd ≠ T2.sd → T2.hd ≠ T2.sd → T2.rd ≠ T2.sd →
    (∀ G' T3, ThingsAt K CT G' t2 T3 → ButT T2 G G' → TK K G G' → ThM K G' T3 S' → Q a G') → spDoStep K w pS S [.ref t2, .int me, pend] G Q (fun _ _ _ => False)
/-- the steps of all wishes -/
structure StepKs (K : PySem.W.Frag) (w : World) (CT pS : Addr) (S : Addr → Option Sp) : Prop where
  rest : ∃ f, KDct K w pS "rest" (.ref f) ∧ S f = some spNothing
  until_ : ∃ f, KDct K w pS "until" (.ref f) ∧ S f = some spNothing
  look : ∃ f, KDct K w pS "look" (.ref f) ∧ S f = some (spStep K CT dLook)
  put : ∃ f, KDct K w pS "put" (.ref f) ∧ S f = some (spStep K CT dPut)
  swap : ∃ f, KDct K w pS "swap" (.ref f) ∧ S f = some (spStep K CT dSwap)
  trade : ∃ f, KDct K w pS "trade" (.ref f) ∧ S f = some (spStep K CT (dTrade (RD K 3)))
  take : ∃ f, KDct K w pS "take" (.ref f) ∧ S f = some (spStep K CT dTake)
  give : ∃ f, KDct K w pS "give" (.ref f) ∧ S f = some (spStep K CT dGive)
  reach : ∃ f, KDct K w pS "reach" (.ref f) ∧ S f = some (spStep K CT dReach)
  lay : ∃ f, KDct K w pS "lay" (.ref f) ∧ S f = some (spStep K CT (dLay K))
  fetch : ∃ f, KDct K w pS "fetch" (.ref f) ∧ S f = some (spStep K CT (dFetch K))
section
variable {K : PySem.W.Frag} {C : Addr} {G : Hp} {t : Addr} {T : TS}
theorem ThingsAt.putC {c : List (Key × V)} (hT : ThingsAt K C G t T) (n1 : T.cells ≠ T.holders) (n2 : T.cells ≠ T.rows) (n3 : T.cd ≠ T.sd) : ThingsAt K C (upd G T.cd (.dK c)) t { T with cells := c } :=
  ⟨(upd_ne (ne_of hT.ob hT.c (by intro z; cases z))).trans hT.ob, upd_same, (upd_ne (ne_of hT.h hT.c (by intro z; injection z with z; exact n1 z.symm))).trans hT.h, (upd_ne (ne_of hT.r hT.c (by intro z; injection z with z; exact n2 z.symm))).trans hT.r, (upd_ne (Ne.symm n3)).trans hT.s⟩
theorem ThingsAt.putH {c : List (Key × V)} (hT : ThingsAt K C G t T) (n1 : T.cells ≠ T.holders) (n2 : T.holders ≠ T.rows) (n3 : T.hd ≠ T.sd) : ThingsAt K C (upd G T.hd (.dK c)) t { T with holders := c } :=
  ⟨(upd_ne (ne_of hT.ob hT.h (by intro z; cases z))).trans hT.ob, (upd_ne (ne_of hT.c hT.h (by intro z; injection z with z; exact n1 z))).trans hT.c, upd_same, (upd_ne (ne_of hT.r hT.h (by intro z; injection z with z; exact n2 z.symm))).trans hT.r, (upd_ne (Ne.symm n3)).trans hT.s⟩
theorem ThingsAt.putR {c : List (Key × V)} (hT : ThingsAt K C G t T) (n1 : T.cells ≠ T.rows) (n2 : T.holders ≠ T.rows) (n3 : T.rd ≠ T.sd) : ThingsAt K C (upd G T.rd (.dK c)) t { T with rows := c } :=
  ⟨(upd_ne (ne_of hT.ob hT.r (by intro z; cases z))).trans hT.ob, (upd_ne (ne_of hT.c hT.r (by intro z; injection z with z; exact n1 z))).trans hT.c, (upd_ne (ne_of hT.h hT.r (by intro z; injection z with z; exact n2 z))).trans hT.h, upd_same, (upd_ne (Ne.symm n3)).trans hT.s⟩
theorem keys_ne {a b : List (Key × V)} {l m : List Str} {nm : Str} (ha : a.map (·.1) = l.map Sum.inr) (hb : b.map (·.1) = m.map Sum.inr) (i : nm ∈ l) (j : nm ∉ m) : a ≠ b := fun e => by
  have z : (Sum.inr nm : Key) ∈ b.map (·.1) := by
    rw [← e, ha]
    exact List.mem_map.mpr ⟨nm, i, rfl⟩
  rw [hb] at z
  obtain ⟨x, hx, e⟩ := List.mem_map.mp z
  exact j (Sum.inr.inj e ▸ hx)
end
theorem wishV_ne2 {kind name : Str} {args : List V} (h : kind ≠ ("rest" : Str)) : wishV kind name args = .str kind :: .str name :: args := if_neg h
section
variable {K : PySem.W.Frag} {w : World} {CT pS : Addr} {S : Addr → Option Sp} {N : Nms} {sm : V → V → Bool} {H0 H : Hp} {T : TS} {S0 S1 : Sto} {wt : Addr} {kind name : Str} {args : List V} {a : V} {me : Int}
theorem doesT (SK : StepKs K w CT pS S) (t0 : TK K H0 H) (hsm : SmOk K H0 sm) (dj : Disj N) (hw : SqT K H wt (wishV kind name args)) (wo : WishOk N kind name args) (pa : ∀ x ∈ args, PV K H0 x) (dm : DoM sm S0 (.int me) name kind args a S1) (th : ThM K H T S0) (so : StoOk K H0 N S0) :
    DoesT K w CT pS S me (.ref wt) H T a S1 := by
  intro T2 t2 G Q tk hT e1 e2 e3 e4 f1 f2 f3 hq
  have hw2 := tk _ _ hw
  have thG : ThM K G T2 S0 := ⟨e1.trans th.c, e2.trans th.h, e3 ▸ th.r.tk tk, e4.trans th.z⟩
  have same := hq G T2 hT (fun b o _ _ _ e => e) (fun _ _ q => q)
  have fw := so.few
  have ck : T2.cells.map (·.1) = N.cells.map Sum.inr := thG.c ▸ so.ck
  have hk : T2.holders.map (·.1) = N.locks.map Sum.inr := thG.h ▸ so.hk
  have rk : T2.rows.map (·.1) = N.belts.map Sum.inr := so.bk ▸ thG.r.keys
  have sz : (60 : Nat) < sizeLine := Nat.lt_of_lt_of_le (by decide) (small_sz (n := 61) (by decide))
  have lc : T2.cells.length < sizeLine := Nat.lt_of_le_of_lt (by rw [len_of ck]; omega) sz
  have lh : T2.holders.length < sizeLine := Nat.lt_of_le_of_lt (by rw [len_of hk]; omega) sz
  have lr : T2.rows.length < sizeLine := Nat.lt_of_le_of_lt (by rw [len_of rk]; omega) sz
  have vc : ∀ nm, nm ∈ N.cells → valV T2.cells (Sum.inr nm) = some (valD S0.cells nm) := fun nm m => by
    rw [thG.c]
    exact val_of so.ck m
  have vh : ∀ nm, nm ∈ N.locks → valV T2.holders (Sum.inr nm) = some (valD S0.holders nm) := fun nm m => by
    rw [thG.h]
    exact val_of so.hk m
  have tkW : ∀ {d : Addr} {c c' : List (Key × V)}, G d = some (.dK c) → TK K G (upd G d (.dK c')) := fun h => tk_dK h
  have wC : ∀ (nm : Str) (x : V), nm ∈ N.cells → S1 = { S0 with cells := putK S0.cells (Sum.inr nm) x } → ∀ G1, Same G G1 → Q a (upd G1 T2.cd (.dK (putK T2.cells (Sum.inr nm) x))) := fun nm x m es G1 sm1 => by
    subst es
    have hT1 := hT.same sm1
    have t1 : TK K G (upd G1 T2.cd (.dK (putK T2.cells (Sum.inr nm) x))) := (TK.of sm1).trans (tk_dK hT1.c)
    exact hq _ _ (hT1.putC (keys_ne ck hk m (dj.cl nm m)) (keys_ne ck rk m (dj.cb nm m)) f1) (fun b o g1 _ _ e => (upd_ne g1).trans (sm1 _ _ e)) t1 ⟨by show putK T2.cells _ _ = _; rw [thG.c], thG.h, thG.r.tk t1, thG.z⟩
  have wH : ∀ (nm : Str) (x : V), nm ∈ N.locks → S1 = { S0 with holders := putK S0.holders (Sum.inr nm) x } → Q a (upd G T2.hd (.dK (putK T2.holders (Sum.inr nm) x))) := fun nm x m es => by
    subst es
    have t1 : TK K G (upd G T2.hd (.dK (putK T2.holders (Sum.inr nm) x))) := tk_dK hT.h
    exact hq _ _ (hT.putH (keys_ne hk ck m (fun z => dj.cl nm z m)).symm (keys_ne hk rk m (dj.lb nm m)) f2) (fun b o _ g1 _ e => (upd_ne g1).trans e) t1 ⟨thG.c, by show putK T2.holders _ _ = _; rw [thG.h], thG.r.tk t1, thG.z⟩
  have wR : ∀ (nm : Str) (row : List V) (p : Addr) (G1 : Hp), nm ∈ N.belts → S1 = { S0 with bc := setB S0.bc nm row } → Same G G1 → SqT K G1 p row → Q a (upd G1 T2.rd (.dK (putK T2.rows (Sum.inr nm) (.ref p)))) := fun nm row p G1 m es sm1 hp => by
    subst es
    have hT1 := hT.same sm1
    have t1 : TK K G1 (upd G1 T2.rd (.dK (putK T2.rows (Sum.inr nm) (.ref p)))) := tk_dK hT1.r
    exact hq _ _ (hT1.putR (keys_ne rk ck m (fun z => dj.cb nm z m)).symm (keys_ne rk hk m (fun z => dj.lb nm z m)).symm f3) (fun b o _ _ g1 e => (upd_ne g1).trans (sm1 _ _ e)) ((TK.of sm1).trans t1) ⟨thG.c, thG.h, ((thG.r.tk (TK.of sm1)).put (so.bk ▸ m) hp).tk t1, thG.z⟩
  cases dm with
  | rest =>
    rw [show wishV "rest" name [] = [V.str "rest"] from if_pos rfl] at hw2
    obtain ⟨f, kd, hs⟩ := SK.rest
    exact ⟨.ref t2, .int me, wt, f, "rest", _, _, rfl, hw2, kd, hs, _, _, _, rfl, same thG⟩
  | until_ =>
    rw [wishV_ne2 (by decide +kernel)] at hw2
    obtain ⟨f, kd, hs⟩ := SK.until_
    exact ⟨.ref t2, .int me, wt, f, "until", _, _, rfl, hw2, kd, hs, _, _, _, rfl, same thG⟩
  | look =>
    have mc : name ∈ N.cells := by
      rcases wo with ⟨e, _⟩ | ⟨_, h, _⟩ | ⟨e, _⟩ | ⟨e, _⟩ | ⟨e, _⟩ | ⟨e, _⟩ | ⟨e, _⟩ | ⟨e, _⟩ | ⟨e, _⟩ | ⟨e, _⟩ | ⟨e, _⟩
      all_goals first | exact h | exact absurd e (by decide +kernel)
    rw [wishV_ne2 (by decide +kernel)] at hw2
    obtain ⟨f, kd, hs⟩ := SK.look
    exact ⟨.ref t2, .int me, wt, f, "look", _, _, rfl, hw2, kd, hs, t2, wt, me, T2, "look", name, _, rfl, hT, hw2, _, vc name mc, same thG⟩
  | put =>
    have mc : name ∈ N.cells := by
      rcases wo with ⟨e, _⟩ | ⟨e, _⟩ | ⟨_, h, _⟩ | ⟨e, _⟩ | ⟨e, _⟩ | ⟨e, _⟩ | ⟨e, _⟩ | ⟨e, _⟩ | ⟨e, _⟩ | ⟨e, _⟩ | ⟨e, _⟩
      all_goals first | exact h | exact absurd e (by decide +kernel)
    rw [wishV_ne2 (by decide +kernel)] at hw2
    obtain ⟨f, kd, hs⟩ := SK.put
    exact ⟨.ref t2, .int me, wt, f, "put", _, _, rfl, hw2, kd, hs, t2, wt, me, T2, "put", name, _, rfl, hT, hw2, _, _, rfl, lc, wC name _ mc rfl G (Same.refl _)⟩
  | swap =>
    have mc : name ∈ N.cells := by
      rcases wo with ⟨e, _⟩ | ⟨e, _⟩ | ⟨e, _⟩ | ⟨_, h, _⟩ | ⟨e, _⟩ | ⟨e, _⟩ | ⟨e, _⟩ | ⟨e, _⟩ | ⟨e, _⟩ | ⟨e, _⟩ | ⟨e, _⟩
      all_goals first | exact h | exact absurd e (by decide +kernel)
    rw [wishV_ne2 (by decide +kernel)] at hw2
    obtain ⟨f, kd, hs⟩ := SK.swap
    exact ⟨.ref t2, .int me, wt, f, "swap", _, _, rfl, hw2, kd, hs, t2, wt, me, T2, "swap", name, _, rfl, hT, hw2, _, _, _, rfl, vc name mc, lc, wC name _ mc rfl G (Same.refl _)⟩
  | tradeN hh =>
    have mc : name ∈ N.cells := by
      rcases wo with ⟨e, _⟩ | ⟨e, _⟩ | ⟨e, _⟩ | ⟨e, _⟩ | ⟨_, h, _⟩ | ⟨e, _⟩ | ⟨e, _⟩ | ⟨e, _⟩ | ⟨e, _⟩ | ⟨e, _⟩ | ⟨e, _⟩
      all_goals first | exact h | exact absurd e (by decide +kernel)
    rw [wishV_ne2 (by decide +kernel)] at hw2
    obtain ⟨f, kd, hs⟩ := SK.trade
    have rd := (hsm (valD S0.cells name) _ (so.cv name mc) (pa _ (List.mem_cons_self ..))).tk (t0.trans tk)
    rw [hh] at rd
    exact ⟨.ref t2, .int me, wt, f, "trade", _, _, rfl, hw2, kd, hs, t2, wt, me, T2, "trade", name, _, rfl, hT, hw2, _, _, _, _, false, rfl, vc name mc, lc, rd, fun H' s => ⟨fun _ => hq H' T2 (hT.same s) (fun b o _ _ _ e => s _ _ e) (TK.of s) (thG.tk (TK.of s)), fun z => (nomatch z)⟩⟩
  | tradeY hh =>
    have mc : name ∈ N.cells := by
      rcases wo with ⟨e, _⟩ | ⟨e, _⟩ | ⟨e, _⟩ | ⟨e, _⟩ | ⟨_, h, _⟩ | ⟨e, _⟩ | ⟨e, _⟩ | ⟨e, _⟩ | ⟨e, _⟩ | ⟨e, _⟩ | ⟨e, _⟩
      all_goals first | exact h | exact absurd e (by decide +kernel)
    rw [wishV_ne2 (by decide +kernel)] at hw2
    obtain ⟨f, kd, hs⟩ := SK.trade
    have rd := (hsm (valD S0.cells name) _ (so.cv name mc) (pa _ (List.mem_cons_self ..))).tk (t0.trans tk)
    rw [hh] at rd
    exact ⟨.ref t2, .int me, wt, f, "trade", _, _, rfl, hw2, kd, hs, t2, wt, me, T2, "trade", name, _, rfl, hT, hw2, _, _, _, _, true, rfl, vc name mc, lc, rd, fun H' s => ⟨fun z => (nomatch z), fun _ => wC name _ mc rfl H' s⟩⟩
  | take =>
    have mc : name ∈ N.locks := by
      rcases wo with ⟨e, _⟩ | ⟨e, _⟩ | ⟨e, _⟩ | ⟨e, _⟩ | ⟨e, _⟩ | ⟨e, _⟩ | ⟨_, h, _⟩ | ⟨e, _⟩ | ⟨e, _⟩ | ⟨e, _⟩ | ⟨e, _⟩
      all_goals first | exact h | exact absurd e (by decide +kernel)
    rw [wishV_ne2 (by decide +kernel)] at hw2
    obtain ⟨f, kd, hs⟩ := SK.take
    exact ⟨.ref t2, .int me, wt, f, "take", _, _, rfl, hw2, kd, hs, t2, wt, me, T2, "take", name, _, rfl, hT, hw2, lh, wH name _ mc rfl⟩
  | give =>
    have mc : name ∈ N.locks := by
      rcases wo with ⟨e, _⟩ | ⟨e, _⟩ | ⟨e, _⟩ | ⟨e, _⟩ | ⟨e, _⟩ | ⟨e, _⟩ | ⟨e, _⟩ | ⟨_, h, _⟩ | ⟨e, _⟩ | ⟨e, _⟩ | ⟨e, _⟩
      all_goals first | exact h | exact absurd e (by decide +kernel)
    rw [wishV_ne2 (by decide +kernel)] at hw2
    obtain ⟨f, kd, hs⟩ := SK.give
    exact ⟨.ref t2, .int me, wt, f, "give", _, _, rfl, hw2, kd, hs, t2, wt, me, T2, "give", name, _, rfl, hT, hw2, lh, wH name _ mc rfl⟩
  | reachN hh =>
    have mc : name ∈ N.locks := by
      rcases wo with ⟨e, _⟩ | ⟨e, _⟩ | ⟨e, _⟩ | ⟨e, _⟩ | ⟨e, _⟩ | ⟨e, _⟩ | ⟨e, _⟩ | ⟨e, _⟩ | ⟨_, h, _⟩ | ⟨e, _⟩ | ⟨e, _⟩
      all_goals first | exact h | exact absurd e (by decide +kernel)
    rw [wishV_ne2 (by decide +kernel)] at hw2
    obtain ⟨f, kd, hs⟩ := SK.reach
    exact ⟨.ref t2, .int me, wt, f, "reach", _, _, rfl, hw2, kd, hs, t2, wt, me, T2, "reach", name, _, rfl, hT, hw2, _, vh name mc, lh, fun _ => same thG, fun z => by rw [z] at hh; exact absurd hh (by decide)⟩
  | reachY hh =>
    have mc : name ∈ N.locks := by
      rcases wo with ⟨e, _⟩ | ⟨e, _⟩ | ⟨e, _⟩ | ⟨e, _⟩ | ⟨e, _⟩ | ⟨e, _⟩ | ⟨e, _⟩ | ⟨e, _⟩ | ⟨_, h, _⟩ | ⟨e, _⟩ | ⟨e, _⟩
      all_goals first | exact h | exact absurd e (by decide +kernel)
    rw [wishV_ne2 (by decide +kernel)] at hw2
    obtain ⟨f, kd, hs⟩ := SK.reach
    exact ⟨.ref t2, .int me, wt, f, "reach", _, _, rfl, hw2, kd, hs, t2, wt, me, T2, "reach", name, _, rfl, hT, hw2, _, vh name mc, lh, fun z => absurd (isNon_t hh) z, fun _ => wH name _ mc rfl⟩
  | lay =>
    have mc : name ∈ N.belts := by
      rcases wo with ⟨e, _⟩ | ⟨e, _⟩ | ⟨e, _⟩ | ⟨e, _⟩ | ⟨e, _⟩ | ⟨e, _⟩ | ⟨e, _⟩ | ⟨e, _⟩ | ⟨e, _⟩ | ⟨_, h, _⟩ | ⟨e, _⟩
      all_goals first | exact h | exact absurd e (by decide +kernel)
    rw [wishV_ne2 (by decide +kernel)] at hw2
    obtain ⟨f, kd, hs⟩ := SK.lay
    obtain ⟨a0, ha, qa⟩ := thG.r.at_ name (so.bk ▸ mc)
    have le := so.len name mc
    exact ⟨.ref t2, .int me, wt, f, "lay", _, _, rfl, hw2, kd, hs, t2, wt, me, T2, "lay", name, _, rfl, hT, hw2, _, _, a0, _, rfl, ha, qa, by omega, lr, fun p H' s q => wR name _ p H' mc rfl s q⟩
  | fetch hh =>
    have mc : name ∈ N.belts := by
      rcases wo with ⟨e, _⟩ | ⟨e, _⟩ | ⟨e, _⟩ | ⟨e, _⟩ | ⟨e, _⟩ | ⟨e, _⟩ | ⟨e, _⟩ | ⟨e, _⟩ | ⟨e, _⟩ | ⟨e, _⟩ | ⟨_, h, _⟩
      all_goals first | exact h | exact absurd e (by decide +kernel)
    rw [wishV_ne2 (by decide +kernel)] at hw2
    obtain ⟨f, kd, hs⟩ := SK.fetch
    obtain ⟨a0, ha, qa⟩ := thG.r.at_ name (so.bk ▸ mc)
    have le := so.len name mc
    rw [hh] at qa le
    exact ⟨.ref t2, .int me, wt, f, "fetch", _, _, rfl, hw2, kd, hs, t2, wt, me, T2, "fetch", name, _, rfl, hT, hw2, _, a0, _, ha, qa, by simp only [List.length_cons] at le; omega, lr, fun p H' s q => wR name _ p H' mc rfl s q⟩
end
end TW
namespace TW
open PySem PySem.Spec PyProof.Rows L2
/-- a run a step further -/
structure WentT (K : PySem.W.Frag) (H : Hp) (R R' : RS) (n : Nat) (pend a : V) (S' : Sto) (y' : PS) : Prop where
  sh : R'.sh = R.sh
  pl : R'.pl = R.pl
  dn : R'.dn = R.dn
  th : ThM K H R'.T S'
  places : R'.places = R.places.set n y'
  done : ∃ t, R'.done = R.done ++ [.ref t] ∧ SqT K H t [.int (n : Nat), pend, a]
/-- what stands as long as all but instances does -/
def JSt (J : Hp → Prop) : Prop := ∀ H H', (∀ b o, H b = some o → (∀ c d fs, o ≠ .ins c d fs) → H' b = some o) → J H → J H'
theorem JSt.same {J : Hp → Prop} (j : JSt J) {H H' : Hp} (e : Same H H') (h : J H) : J H' := j H H' (fun b o q _ => e b o q) h
theorem JSt.but {J : Hp → Prop} (j : JSt J) {H H' : Hp} {r c d : Addr} {fs : List (Str × V)} (e : But r H H') (ho : H r = some (.ins c d fs)) (h : J H) : J H' := j H H' (fun b o q n => e b o (fun z => by
  rw [z, ho] at q
  exact n _ _ _ (Option.some.inj q).symm) q) h
/-- a work, called with a new hand, does as B says -/
def WorkJ (P : Program) (w : World) (K : PySem.W.Frag) (mg : Str → Option Value) (base : Heap) (C CS CH : Addr) (kw n : Nat) (S : SS) (g : Addr) (me : Nat) (J : Hp → Prop) (Adm : List V → Prop) (B : Beh) : Prop :=
  ∃ s1, FnR P w K mg base (L2.CX P w) kw g s1 ∧ PySem.W.FnAt g base ∧ ∀ (sh an : Addr) (ans : List V) (hd dx md wl : Addr) (H0 G : Hp), ShopAt K CS H0 sh S → J H0 → Base3 H0 hd md wl G → Adm ans → HandAt K C G hd dx (hs0 (me : Int) sh an ans md wl) →
    spUp s1 [.ref hd] G
      (fun v H2 => ∃ h, HandAt K C H2 hd dx h ∧ Keep3 hd md wl G H2 ∧ ((h.halted = true ∧ B H2 ans h.pend h.fin h.words) ∨ (h.halted = false ∧ Vn K H2 n v true ∧ ∀ H3 t, Same H2 H3 → H3 t = some (.tup [.str "told", v]) → B H3 ans h.pend (.ref t) h.words)))
      (fun cls d H2 => cls = .ref CH ∧ ∃ h, HandAt K C H2 hd dx h ∧ Keep3 hd md wl G H2 ∧ h.halted = true ∧ B H2 ans h.pend h.fin h.words)
section
variable {P : Program} {w : World} {K : PySem.W.Frag} {mg : Str → Option Value} {base : Heap} {C CS CP CH CV : Addr} {kw n : Nat}
theorem comeJ_use {S : SS} {g : Addr} {me : Nat} {J : Hp → Prop} {Adm : List V → Prop} {B : Beh} (hB : BehS K B) (hx : PySem.W.exmOne K (.ref CH) (.ref CH) = some true) (Wk : WorkJ P w K mg base C CS CH kw n S g me J Adm B) {H : Hp} {sh an : Addr} {ans : List V} (hS : ShopAt K CS H sh S) (hJ : J H) (ha : SqT K H an ans)
    (hw : S.works[me]? = some (.ref g)) (adm : Adm ans) {Q : VK} {E : XK}
    (k : ∀ (pl dp tw : Addr) (pend fin : V) (words : List V) (H' : Hp), Same H H' → H pl = none → H' pl = some (.ins CP dp (pF (.ref an) pend fin (.ref tw))) → SqT K H' tw words → B H' ans pend fin words → Q (.ref pl) H') :
    spCome P w K mg base C CS CP CH CV kw n [.ref sh, .int (me : Int), .ref an] H Q E := by
  obtain ⟨s1, hF, hA, run⟩ := Wk
  refine ⟨sh, an, me, ans, S, g, s1, rfl, hS, ha, hw, hF, hA, fun hd dx md wl G n1 n2 n3 n4 sG hG => ?_⟩
  have old : ∀ {H2 : Hp}, Keep3 hd md wl G H2 → Same H H2 := fun {H2} kp b o e => kp b o (ne_of_none e n1) (ne_of_none e n3) (ne_of_none e n4) (sG b o e)
  have fin : ∀ (h : HS) (H2 : Hp) (fv : V), Same H H2 → (∀ H3, Same H2 H3 → B H3 ans h.pend fv h.words) → AfterP CP an Q { h with fin := fv } H2 := fun h H2 fv sm b pl dp tw G' p1 p2 _ _ _ s2 o1 o2 => by
    refine k pl dp tw h.pend fv h.words G' (sm.trans s2) ?_ o1 (SqT.of o2) (b G' s2)
    cases e : H pl with
    | none => rfl
    | some o =>
      rw [sm _ _ e] at p1
      cases p1
  obtain ⟨Q0, E0, z1, z2, z3⟩ := run sh an ans hd dx md wl H G hS hJ (fun b o e => ⟨ne_of_none e n1, ne_of_none e n3, ne_of_none e n4, sG b o e⟩) adm hG
  refine ⟨Q0, E0, z1, fun v H2 q => ?_, fun cls d H2 q => ?_⟩
  · obtain ⟨h, hA2, kp, q⟩ := z2 v H2 q
    refine ⟨h, hA2, fun ht => ?_, fun hf => ?_⟩
    · rcases q with ⟨_, b⟩ | ⟨e, _⟩
      · exact fin h H2 h.fin (old kp) fun H3 s3 => hB _ _ _ _ _ _ (.of s3) b
      · rw [e] at ht
        cases ht
    · rcases q with ⟨e, _⟩ | ⟨_, vn, b⟩
      · rw [e] at hf
        cases hf
      · refine ⟨true, vn, fun H3 s3 => ⟨fun z => (nomatch z), fun _ t ht => ?_⟩⟩
        have s4 : Same H3 (upd H3 t (.tup [.str "told", v])) := same_new ht
        have hA4 := hA2.same (s3.trans s4)
        have ne : t ≠ hd := fun e => by
          rw [e, s3 _ _ hA2.ob] at ht
          cases ht
        have tk : TK K (upd H3 t (.tup [.str "told", v])) (upd (upd H3 t (.tup [.str "told", v])) hd (.ins C dx { h with fin := .ref t }.fs)) := fun a xs q => seqT_ins hA4.ob q
        refine fin h _ (.ref t) (fun c o e => ?_) fun H5 s5 => hB _ _ _ _ _ _ (tk.trans (.of s5)) (b _ t (s3.trans s4) upd_same)
        rw [upd_ne (ne_of_none e n1)]
        exact s4 _ _ (s3 _ _ (old kp _ _ e))
  · obtain ⟨rfl, h, hA2, kp, ht, b⟩ := z3 cls d H2 q
    exact ⟨true, hx, fun _ => ⟨h, hA2, ht, fin h H2 h.fin (old kp) fun H3 s3 => hB _ _ _ _ _ _ (.of s3) b⟩, fun z => (nomatch z)⟩
end
section
variable {P : Program} {w : World} {K : PySem.W.Frag} {mg : Str → Option Value} {base : Heap} {C CS CP CH CV CR CT CW CC pS : Addr} {kw m : Nat} {S : Addr → Option Sp} {Rel : Hp → V → V → Bool → Prop}
theorem goT_use {SSh : SS} {g : Addr} {n : Nat} {J : Hp → Prop} {Adm : List V → Prop} {B : Beh} (hB : BehS K B) (hx : PySem.W.exmOne K (.ref CH) (.ref CH) = some true) (Wk : WorkJ P w K mg base C CS CH kw m SSh g n J Adm B) (Js : JSt J) {H : Hp} {r : Addr} {R : RS} {y : PS} {a : V} {S' : Sto}
    (hI : RunI K CR CT CP H r R) (hS : ShopAt K CS H R.sh SSh) (hJ : J H) (ey : R.places[n]? = some y) (hw : SSh.works[n]? = some (.ref g)) (can : CanGo K Rel H R.T y.pend true) (adm : Adm (y.ans ++ [a])) (do_ : DoesT K w CT pS S (n : Int) y.pend H R.T a S')
    (few1 : y.ans.length + 1 ≤ 100000) (few2 : R.done.length < sizeLine) {Q : VK} {E : XK}
    (k : ∀ (R' : RS) (y' : PS) (H' : Hp), But3 r R.pl R.dn H H' → RunI K CR CT CP H' r R' → WentT K H' R R' n y.pend a S' y' → y'.ans = y.ans ++ [a] → B H' y'.ans y'.pend y'.fin y'.words → Q a H') :
    spGo P w K CR CT CP CW CC pS S Rel (spCome P w K mg base C CS CP CH CV kw m) [.ref r, .int (n : Int)] H Q E := by
  have hR := hI.at_
  have mem := List.mem_of_getElem? ey
  have hn := (List.getElem?_eq_some_iff.mp ey).1
  refine ⟨r, R, .int (n : Int), true, rfl, hR, whl_i, fun z => (nomatch z), fun _ => ⟨n, rfl, fun z => absurd ⟨by omega, by omega⟩ z, fun n' y2 en ey2 => ?_⟩⟩
  obtain rfl : n = n' := by omega
  obtain rfl : y = y2 := Option.some.inj (ey.symm.trans ey2)
  refine ⟨true, can, fun H1 s1 => ⟨fun z => (nomatch z), fun _ t2 dx cd hd rd G0 n1 n2 n3 n4 n5 sG0 hT0 => ?_⟩⟩
  have hc : G0 cd = some (.dK R.T.cells) := hT0.c
  have hh : G0 hd = some (.dK R.T.holders) := hT0.h
  have hr : G0 rd = some (.dK R.T.rows) := hT0.r
  have os := s1 _ _ hR.t.s
  refine do_ { R.T with dx := dx, cd := cd, hd := hd, rd := rd } t2 G0 _ (TK.of (s1.trans sG0)) hT0 rfl rfl rfl rfl (Ne.symm (ne_of_none os n3)) (Ne.symm (ne_of_none os n4)) (Ne.symm (ne_of_none os n5)) fun G T3 hT3 bT tkG thm => ?_
  have s2 : Same H G := fun b o e => bT b o (ne_of_none (s1 _ _ e) n3) (ne_of_none (s1 _ _ e) n4) (ne_of_none (s1 _ _ e) n5) (sG0 _ _ (s1 _ _ e))
  refine ⟨s2 _ _ hR.ob, (hR.e y mem).same s2, few1, fun an2 H3 s3 ha => ?_⟩
  have s4 := s2.trans s3
  refine comeJ_use hB hx Wk (hS.same s4) (Js.same s4 hJ) ha hw adm fun pl dp tw pend fin words H4 s5 hpl o4 w4 b4 => ?_
  have s6 : Same H H4 := s4.trans s5
  have q1 := s6 _ _ hR.ob
  have q2 := s6 _ _ hR.p
  have q3 := s6 _ _ hR.d
  have q4 := s6 _ _ (hR.e y mem).ob
  refine ⟨pl, rfl, q1, q2, q3, hI.ne, few2, q4, ne_of q4 q1 pF_rF, fun t ht => ?_⟩
  have z1 : r ≠ R.pl := ne_of q1 q2 (by intro z; cases z)
  have z2 : r ≠ R.dn := ne_of q1 q3 (by intro z; cases z)
  have g1 : goHp CR r R n t2 pl H4 r = some (.ins CR R.dx (rF (.ref R.sh) (.ref t2) (.ref R.pl) (.ref R.dn))) := (upd_ne z1).trans upd_same
  have g2 : goHp CR r R n t2 pl H4 R.pl = some (.lst ((R.places.map fun x => V.ref x.p).set n (.ref pl))) := upd_same
  have g0 : ∀ b o, b ≠ r → b ≠ R.pl → H4 b = some o → goHp CR r R n t2 pl H4 b = some o := fun b o e1 e2 e => (upd_ne e2).trans ((upd_ne e1).trans e)
  have bF : But3 r R.pl R.dn H4 (upd (upd (goHp CR r R n t2 pl H4) t (.tup [.int (n : Int), y.pend, a])) R.dn (.lst (R.done ++ [.ref t]))) := fun b o e1 e2 e3 e => by
    have z := g0 b o e1 e2 e
    rw [upd_ne e3, upd_ne (ne_of_none z ht)]
    exact z
  have ep : (R.places.map fun x => V.ref x.p).set n (.ref pl) = (R.places.set n ⟨pl, dp, an2, y.ans ++ [a], pend, fin, tw, words⟩).map fun x => V.ref x.p := by
    rw [List.map_set]
  have hR4 : RunAt K CR CT CP H4 r R := hR.same s6
  have tk := run_tk hR4 bF
  have td : t ≠ R.dn := fun e => by
    rw [e] at ht
    rw [show goHp CR r R n t2 pl H4 R.dn = some (.lst R.done) from g0 _ _ (Ne.symm z2) hI.ne q3] at ht
    cases ht
  have u1 : upd (upd (goHp CR r R n t2 pl H4) t (.tup [.int (n : Int), y.pend, a])) R.dn (.lst (R.done ++ [.ref t])) r = some (.ins CR R.dx (rF (.ref R.sh) (.ref t2) (.ref R.pl) (.ref R.dn))) := by
    rw [upd_ne z2, upd_ne (ne_of_none g1 ht)]
    exact g1
  have u2 : upd (upd (goHp CR r R n t2 pl H4) t (.tup [.int (n : Int), y.pend, a])) R.dn (.lst (R.done ++ [.ref t])) R.pl = some (.lst ((R.places.set n ⟨pl, dp, an2, y.ans ++ [a], pend, fin, tw, words⟩).map fun x => V.ref x.p)) := by
    rw [upd_ne (Ne.symm hI.ne), upd_ne (ne_of_none g2 ht), g2, ep]
  have T4 : ThingsAt K CT H4 t2 T3 := hT3.same (s3.trans s5)
  have kp : ∀ {b : Addr} {o : HO}, H4 b = some o → (∀ a b c d, o ≠ .ins CR R.dx (rF a b c d)) → (∀ ys, o ≠ .lst ys) → (upd (upd (goHp CR r R n t2 pl H4) t (.tup [.int (n : Int), y.pend, a])) R.dn (.lst (R.done ++ [.ref t]))) b = some o := fun {b o} e e1 e2 =>
    bF b o (ne_of e q1 (e1 _ _ _ _)) (ne_of e q2 (e2 _)) (ne_of e q3 (e2 _)) e
  refine k ⟨R.dx, R.sh, t2, R.pl, R.dn, T3, R.places.set n ⟨pl, dp, an2, y.ans ++ [a], pend, fin, tw, words⟩, R.done ++ [.ref t]⟩ ⟨pl, dp, an2, y.ans ++ [a], pend, fin, tw, words⟩ _ (fun b o e1 e2 e3 e => bF b o e1 e2 e3 (s6 _ _ e)) ⟨⟨u1, ?_, u2, fun x hx => ?_, upd_same⟩, hI.ne⟩
    ⟨rfl, rfl, rfl, (thm.tk (TK.of (s3.trans s5))).tk tk, rfl, t, rfl, SqT.of ((upd_ne td).trans upd_same)⟩ rfl (hB _ _ _ _ _ _ tk b4)
  · refine ⟨kp T4.ob (fun _ _ _ _ => tF_rF) (fun _ z => (nomatch z)), kp T4.c (fun _ _ _ _ z => (nomatch z)) (fun _ z => (nomatch z)), kp T4.h (fun _ _ _ _ z => (nomatch z)) (fun _ z => (nomatch z)), kp T4.r (fun _ _ _ _ z => (nomatch z)) (fun _ z => (nomatch z)), kp T4.s (fun _ _ _ _ z => (nomatch z)) (fun _ z => (nomatch z))⟩
  · rcases List.mem_or_eq_of_mem_set hx with h | rfl
    · exact place_but hR4 bF (hR4.e x h)
    · exact place_but hR4 bF ⟨o4, seqT_same s5 ha, w4⟩
end
section
variable {P : Program} {w : World} {K : PySem.W.Frag} {mg : Str → Option Value} {base : Heap} {C CS CP CH CV CR CT : Addr} {kw n : Nat}
theorem riJ_use {S : SS} {m : Nat} (Bs : Nat → Beh) {J : Hp → Prop} (Js : JSt J) (Ad : Nat → List V → Prop) (gs : Nat → Addr) (hx : PySem.W.exmOne K (.ref CH) (.ref CH) = some true) (hB : ∀ i, i < m → BehS K (Bs i)) (hA : ∀ i, i < m → Ad i []) (hw : ∀ i, i < m → S.works[i]? = some (.ref (gs i)))
    (Wk : ∀ i, i < m → WorkJ P w K mg base C CS CH kw n S (gs i) i J (Ad i) (Bs i)) {H : Hp} {r dx sh : Addr} (ho : H r = some (.ins CR dx [])) (hS : ShopAt K CS H sh S) (hJ : J H) (hm : S.many = (m : Int)) (few : m ≤ 1000) (n1 : S.locks.Nodup) (n2 : S.beltN.Nodup) (l1 : S.locks.length ≤ 1000) (l2 : S.belts.length ≤ 1000) {Q : VK} {E : XK}
    (k : ∀ (R : RS) (H' : Hp), But r H H' → RunI K CR CT CP H' r R → R.sh = sh → R.T.cells = S.cells → R.T.holders = S.locks.map (fun s => (Sum.inr s, V.non)) → R.T.rows.map (·.1) = S.beltN.map Sum.inr → (∀ p ∈ R.T.rows, ∃ a, p.2 = .ref a ∧ SqT K H' a []) → R.T.sizes = S.belts → R.places.length = m →
      (∀ j x, R.places[j]? = some x → x.ans = [] ∧ Bs j H' [] x.pend x.fin x.words) → R.done = [] → H R.pl = none → H R.dn = none → Q .non H') :
    spRI K CR CS CT (spCome P w K mg base C CS CP CH CV kw n) [.ref r, .ref sh] H Q E := by
  have hsr : sh ≠ r := ne_of hS.ob ho (by
    intro z
    injection z with z1 z2 z3
    unfold sF at z3
    cases z3)
  refine ⟨r, dx, sh, S, m, rfl, ho, hm, few, ?_⟩
  have b0 : But r H (upd H r (.ins CR dx [("shop", .ref sh)])) := .put
  have sB : ∀ {G G' : Hp}, But r G G' → (∃ fs, G r = some (.ins CR dx fs)) → ShopAt K CS G sh S → ShopAt K CS G' sh S := fun {G G'} b ⟨fs, e⟩ A =>
    ⟨b _ _ hsr A.ob, sqT_but e ins_ntup.1 ins_ntup.2 b A.w, b _ _ (ne_of A.c e (by intro z; cases z)) A.c, A.cn, sqT_but e ins_ntup.1 ins_ntup.2 b A.l, b _ _ (ne_of A.b e (by intro z; cases z)) A.b, A.bn⟩
  have S0 := sB b0 ⟨_, ho⟩ hS
  refine ⟨sh, S, rfl, S0, n1, n2, l1, l2, fun t2 tdx cd hd rd rows G f1 f2 f3 f4 sG hT hk hr => ?_⟩
  have or : G r = some (.ins CR dx [("shop", .ref sh)]) := sG _ _ upd_same
  refine ⟨or, S0.same sG, hsr, fun D hD => ?_⟩
  have b1 : But r H G := b0.trans (But.of sG)
  refine ⟨fun i H1 acc => ∃ ps : List PS, acc = ps.map (fun x => V.ref x.p) ∧ ps.length = i ∧ (∀ j x, ps[j]? = some x → PlaceAt K CP H1 x ∧ x.ans = [] ∧ Bs j H1 [] x.pend x.fin x.words) ∧ (∀ b o, b ≠ r → b ≠ D → G b = some o → H1 b = some o) ∧ H1 r = some (.ins CR dx [("shop", .ref sh), ("things", .ref t2)]) ∧ H1 D = some (.lst acc) ∧ D ≠ r, ?_, ?_, ?_⟩
  · have e : D ≠ r := fun e => by
      rw [e, upd_same] at hD
      cases hD
    exact ⟨[], rfl, rfl, fun j x z => (nomatch z), fun b o e1 e2 z => by rw [upd_ne e2, upd_ne e1]; exact z, (upd_ne (Ne.symm e)).trans upd_same, upd_same, e⟩
  · rintro i H1 acc hi ⟨ps, rfl, hl, each, f, hr1, hd1, dr⟩ _ t ht
    have gD : G D = none := by
      rw [upd_ne dr] at hD
      exact hD
    have bG : But r G H1 := fun b o e1 e => f b o e1 (ne_of_none e gD) e
    have st := same_new (o := .tup []) ht
    have S1 := (sB bG ⟨_, or⟩ (S0.same sG)).same st
    refine comeJ_use (hB i hi) hx (Wk i hi) S1 (Js.same st (Js.but (b1.trans bG) ho hJ)) (SqT.of upd_same) (hw i hi) (hA i hi) fun pl dp tw pend fin words H2 s5 hpl o4 w4 b4 => ?_
    have sm := st.trans s5
    have hd2 := sm _ _ hd1
    refine ⟨hd2, ps ++ [⟨pl, dp, t, [], pend, fin, tw, words⟩], by rw [List.map_append]; rfl, by rw [List.length_append, hl]; rfl, fun j x e => ?_, fun b o e1 e2 e => by rw [upd_ne e2]; exact sm _ _ (f b o e1 e2 e), (upd_ne (Ne.symm dr)).trans (sm _ _ hr1), upd_same, dr⟩
    by_cases c : j < ps.length
    · rw [List.getElem?_append_left c] at e
      obtain ⟨q1, q2, q3⟩ := each j x e
      exact ⟨place_put hd2 (q1.same sm), q2, hB j (Nat.lt_trans (hl ▸ c) hi) _ _ _ _ _ _ ((TK.of sm).trans (tk_lst hd2)) q3⟩
    · have z := (List.getElem?_eq_some_iff.mp e).1
      rw [List.length_append] at z
      have ej : j = ps.length := by
        have : j < ps.length + 1 := z
        omega
      rw [ej, List.getElem?_append_right (Nat.le_refl _), Nat.sub_self] at e
      obtain rfl := (Option.some.inj (show some _ = some x from e)).symm
      rw [ej, hl]
      exact ⟨place_put hd2 ⟨o4, seqT_same s5 (SqT.of upd_same), w4⟩, rfl, hB i hi _ _ _ _ _ _ (tk_lst hd2) b4⟩
  · rintro H1 acc hl ⟨ps, rfl, hl2, each, f, hr1, hd1, dr⟩ _
    refine ⟨hr1, fun l hlf => ?_⟩
    have gD : G D = none := by
      rw [upd_ne dr] at hD
      exact hD
    have fr := upd_free hlf
    have ld : l ≠ D := fun e => by
      rw [e, hd1] at fr
      cases fr.2
    have fin : ∀ b o, b ≠ r → H1 b = some o → (upd (upd (upd H1 r (.ins CR dx [("shop", .ref sh), ("things", .ref t2), ("places", .ref D)])) l (.lst [])) r (.ins CR dx (rF (.ref sh) (.ref t2) (.ref D) (.ref l)))) b = some o := fun b o e1 e => by
      rw [upd_ne e1, upd_ne (fun z => by rw [z, fr.2] at e; cases e), upd_ne e1]
      exact e
    have g1 : ∀ b o, b ≠ r → G b = some o → H1 b = some o := fun b o e1 e => f b o e1 (ne_of_none e gD) e
    have tk : TK K H1 (upd (upd (upd H1 r (.ins CR dx [("shop", .ref sh), ("things", .ref t2), ("places", .ref D)])) l (.lst [])) r (.ins CR dx (rF (.ref sh) (.ref t2) (.ref D) (.ref l)))) := fun a xs q => sqT_but hr1 ins_ntup.1 ins_ntup.2 fin q
    refine k ⟨dx, sh, t2, D, l, ⟨tdx, cd, S.cells, hd, S.locks.map (fun s => (Sum.inr s, V.non)), rd, rows, S.bd, S.belts⟩, ps, []⟩ _ (fun b o e1 e => fin b o e1 (g1 b o e1 (b1 b o e1 e))) ⟨⟨upd_same, ⟨?_, ?_, ?_, ?_, ?_⟩, fin _ _ dr hd1, fun x hx => ?_, ?_⟩, ld⟩ rfl rfl rfl hk (fun p hp => ?_) rfl (hl2) (fun j x e => ?_) rfl ?_ ?_
    · exact fin _ _ (ne_of hT.ob or tF_shop) (g1 _ _ (ne_of hT.ob or tF_shop) hT.ob)
    · exact fin _ _ (ne_of hT.c or (by intro z; cases z)) (g1 _ _ (ne_of hT.c or (by intro z; cases z)) hT.c)
    · exact fin _ _ (ne_of hT.h or (by intro z; cases z)) (g1 _ _ (ne_of hT.h or (by intro z; cases z)) hT.h)
    · exact fin _ _ (ne_of hT.r or (by intro z; cases z)) (g1 _ _ (ne_of hT.r or (by intro z; cases z)) hT.r)
    · exact fin _ _ (ne_of hT.s or (by intro z; cases z)) (g1 _ _ (ne_of hT.s or (by intro z; cases z)) hT.s)
    · obtain ⟨j, hj, e⟩ := List.mem_iff_getElem.mp hx
      have q := (each j x (by rw [List.getElem?_eq_getElem hj, e])).1
      exact ⟨fin _ _ (ne_of q.ob hr1 pF_shop) q.ob, tk _ _ q.a, tk _ _ q.w⟩
    · exact (upd_ne fr.1).trans upd_same
    · obtain ⟨a, e1, e2⟩ := hr p hp
      exact ⟨a, e1, tk _ _ (sqT_but or ins_ntup.1 ins_ntup.2 g1 e2)⟩
    · obtain ⟨_, q2, q3⟩ := each j x e
      have hj : j < m := hl2 ▸ (List.getElem?_eq_some_iff.mp e).1
      exact ⟨q2, hB j hj _ _ _ _ _ _ tk q3⟩
    · show H D = none
      cases e : H D with
      | none => rfl
      | some o =>
        rw [b1 _ _ dr e] at gD
        cases gD
    · show H l = none
      cases e : H l with
      | none => rfl
      | some o =>
        rw [f _ _ fr.1 ld (b1 _ _ fr.1 e)] at fr
        cases fr.2
end
end TW
namespace TW
open PySem PySem.Spec PyProof.Rows L2 LamX
theorem isNon_dec (v : V) : isNon v = decide (v = .non) := by
  cases v <;> first | rfl | exact (decide_eq_false (fun z => by cases z)).symm
section
variable {K : PySem.W.Frag} {N : Nms} {sm : V → V → Bool} {H0 H : Hp} {T : TS} {S0 : Sto} {wt : Addr} {kind name : Str} {args : List V}
theorem lets_else (h1 : kind ≠ "until") (h2 : kind ≠ "take") (h3 : kind ≠ "lay") (h4 : kind ≠ "fetch") : letsM sm S0 kind name args = true := by
  unfold letsM
  rw [if_neg h1, if_neg h2, if_neg h3, if_neg h4]
theorem canGo_of (t0 : TK K H0 H) (hsm : SmOk K H0 sm) (hw : SqT K H wt (wishV kind name args)) (wo : WishOk N kind name args) (pa : ∀ x ∈ args, PV K H0 x) (th : ThM K H T S0) (so : StoOk K H0 N S0) : CanGo K (RD K 3) H T (.ref wt) (letsM sm S0 kind name args) := by
  have vc : ∀ nm, nm ∈ N.cells → valV T.cells (Sum.inr nm) = some (valD S0.cells nm) := fun nm m => by
    rw [th.c]
    exact val_of so.ck m
  have vh : ∀ nm, nm ∈ N.locks → valV T.holders (Sum.inr nm) = some (valD S0.holders nm) := fun nm m => by
    rw [th.h]
    exact val_of so.hk m
  by_cases c0 : kind = "rest"
  · subst c0
    rw [show wishV "rest" name args = [V.str "rest"] from if_pos rfl] at hw
    rw [lets_else (by decide +kernel) (by decide +kernel) (by decide +kernel) (by decide +kernel)]
    exact .inr ⟨wt, _, _, rfl, hw, fun z => absurd z (by decide +kernel), fun z => absurd z (by decide +kernel), fun z => absurd z (by decide +kernel), fun z => absurd z (by decide +kernel), fun _ _ _ _ => rfl⟩
  rw [wishV_ne2 c0] at hw
  refine .inr ⟨wt, kind, _, rfl, hw, fun c => ?_, fun c => ?_, fun c => ?_, fun c => ?_, fun c1 c2 c3 c4 => lets_else c1 c2 c3 c4⟩
  · subst c
    rcases wo with ⟨e, _⟩ | ⟨e, _⟩ | ⟨e, _⟩ | ⟨e, _⟩ | ⟨e, _⟩ | ⟨_, m, x, rfl⟩ | ⟨e, _⟩ | ⟨e, _⟩ | ⟨e, _⟩ | ⟨e, _⟩ | ⟨e, _⟩
    all_goals first | exact absurd e (by decide +kernel) | skip
    refine ⟨name, x, [], _, rfl, vc name m, ?_⟩
    rw [show letsM sm S0 "until" name [x] = sm (valD S0.cells name) x from if_pos rfl]
    exact (hsm _ _ (so.cv name m) (pa _ (List.mem_cons_self ..))).tk t0
  · subst c
    rcases wo with ⟨e, _⟩ | ⟨e, _⟩ | ⟨e, _⟩ | ⟨e, _⟩ | ⟨e, _⟩ | ⟨e, _⟩ | ⟨_, m, rfl⟩ | ⟨e, _⟩ | ⟨e, _⟩ | ⟨e, _⟩ | ⟨e, _⟩
    all_goals first | exact absurd e (by decide +kernel) | skip
    refine ⟨name, [], _, rfl, vh name m, ?_⟩
    rw [show letsM sm S0 "take" name [] = isNon (valD S0.holders name) from (if_neg (by decide +kernel)).trans (if_pos rfl)]
    exact isNon_dec _
  · subst c
    rcases wo with ⟨e, _⟩ | ⟨e, _⟩ | ⟨e, _⟩ | ⟨e, _⟩ | ⟨e, _⟩ | ⟨e, _⟩ | ⟨e, _⟩ | ⟨e, _⟩ | ⟨e, _⟩ | ⟨_, m, x, rfl⟩ | ⟨e, _⟩
    all_goals first | exact absurd e (by decide +kernel) | skip
    obtain ⟨a0, ha, qa⟩ := th.r.at_ name (so.bk ▸ m)
    obtain ⟨z, hz, zk⟩ := so.size name m
    rw [show letsM sm S0 "lay" name [x] = room S0 name from (if_neg (by decide +kernel)).trans ((if_neg (by decide +kernel)).trans (if_pos rfl))]
    refine ⟨name, _, rfl, z, a0, S0.bc name, by rw [th.z]; exact hz, ha, qa, ?_⟩
    unfold room
    rw [hz]
    rcases zk with rfl | ⟨i, rfl⟩
    · exact .inl ⟨rfl, rfl⟩
    · exact .inr ⟨i, rfl, rfl⟩
  · subst c
    rcases wo with ⟨e, _⟩ | ⟨e, _⟩ | ⟨e, _⟩ | ⟨e, _⟩ | ⟨e, _⟩ | ⟨e, _⟩ | ⟨e, _⟩ | ⟨e, _⟩ | ⟨e, _⟩ | ⟨e, _⟩ | ⟨_, m, rfl⟩
    all_goals first | exact absurd e (by decide +kernel) | skip
    obtain ⟨a0, ha, qa⟩ := th.r.at_ name (so.bk ▸ m)
    rw [show letsM sm S0 "fetch" name [] = !(S0.bc name).isEmpty from (if_neg (by decide +kernel)).trans ((if_neg (by decide +kernel)).trans ((if_neg (by decide +kernel)).trans (if_pos rfl)))]
    refine ⟨name, [], a0, S0.bc name, rfl, ha, qa, ?_⟩
    cases S0.bc name <;> rfl
end
theorem DoM.ok {K : PySem.W.Frag} {H : Hp} {N : Nms} {sm : V → V → Bool} {S S' : Sto} {me : Int} {nm kind : Str} {args : List V} {a : V} (h : DoM sm S (.int me) nm kind args a S') (so : StoOk K H N S) (wo : WishOk N kind nm args) (pa : ∀ x ∈ args, PV K H x) (ln : ∀ b ∈ N.belts, (S.bc b).length < 900) : StoOk K H N S' ∧ PV K H a := by
  have non : PV K H .non := ⟨_, .non _⟩
  have bl : ∀ b, PV K H (.bl b) := fun b => ⟨_, .bl _ _⟩
  have pC : ∀ (x : V), nm ∈ N.cells → PV K H x → StoOk K H N { S with cells := putK S.cells (Sum.inr nm) x } := fun x m hx => by
    refine { so with ck := (keys_put (by rw [so.ck]; exact List.mem_map.mpr ⟨nm, m, rfl⟩)).trans so.ck, cv := fun nm' m' => ?_ }
    show PV K H (((valV (putK S.cells (Sum.inr nm) x) (Sum.inr nm')).getD .non))
    rw [valV_put]
    split
    · exact hx
    · exact so.cv nm' m'
  have pH : ∀ (x : V), nm ∈ N.locks → (x = .non ∨ ∃ i, x = .int i) → StoOk K H N { S with holders := putK S.holders (Sum.inr nm) x } := fun x m hx => by
    refine { so with hk := (keys_put (by rw [so.hk]; exact List.mem_map.mpr ⟨nm, m, rfl⟩)).trans so.hk, hv := fun nm' m' => ?_ }
    show ((valV (putK S.holders (Sum.inr nm) x) (Sum.inr nm')).getD .non) = .non ∨ ∃ i, ((valV (putK S.holders (Sum.inr nm) x) (Sum.inr nm')).getD .non) = .int i
    rw [valV_put]
    split
    · exact hx
    · exact so.hv nm' m'
  have pB : ∀ (row : List V), nm ∈ N.belts → (∀ v ∈ row, PV K H v) → row.length ≤ 900 → StoOk K H N { S with bc := setB S.bc nm row } := fun row m hv hl => by
    refine { so with vals := fun nm' m' v hv' => ?_, len := fun nm' m' => ?_ }
    · have hv' : v ∈ setB S.bc nm row nm' := hv'
      unfold setB at hv'
      split at hv'
      · exact hv v hv'
      · exact so.vals nm' m' v hv'
    · show (setB S.bc nm row nm').length ≤ 900
      unfold setB
      split
      · exact hl
      · exact so.len nm' m'
  have cm : kind = "look" ∨ kind = "put" ∨ kind = "swap" ∨ kind = "trade" ∨ kind = "until" → nm ∈ N.cells := fun e => by
    rcases wo with ⟨rfl, _⟩ | ⟨_, h, _⟩ | ⟨_, h, _⟩ | ⟨_, h, _⟩ | ⟨_, h, _⟩ | ⟨_, h, _⟩ | ⟨rfl, _⟩ | ⟨rfl, _⟩ | ⟨rfl, _⟩ | ⟨rfl, _⟩ | ⟨rfl, _⟩
    all_goals first | exact h | exact absurd e (by decide +kernel)
  have hm : kind = "take" ∨ kind = "give" ∨ kind = "reach" → nm ∈ N.locks := fun e => by
    rcases wo with ⟨rfl, _⟩ | ⟨rfl, _⟩ | ⟨rfl, _⟩ | ⟨rfl, _⟩ | ⟨rfl, _⟩ | ⟨rfl, _⟩ | ⟨_, h, _⟩ | ⟨_, h, _⟩ | ⟨_, h, _⟩ | ⟨rfl, _⟩ | ⟨rfl, _⟩
    all_goals first | exact h | exact absurd e (by decide +kernel)
  have bm : kind = "lay" ∨ kind = "fetch" → nm ∈ N.belts := fun e => by
    rcases wo with ⟨rfl, _⟩ | ⟨rfl, _⟩ | ⟨rfl, _⟩ | ⟨rfl, _⟩ | ⟨rfl, _⟩ | ⟨rfl, _⟩ | ⟨rfl, _⟩ | ⟨rfl, _⟩ | ⟨rfl, _⟩ | ⟨_, h, _⟩ | ⟨_, h, _⟩
    all_goals first | exact h | exact absurd e (by decide +kernel)
  clear wo
  cases h with
  | rest => exact ⟨so, non⟩
  | until_ => exact ⟨so, non⟩
  | look => exact ⟨so, so.cv _ (cm (.inl rfl))⟩
  | put => exact ⟨pC _ (cm (.inr (.inl rfl))) (pa _ (List.mem_cons_self ..)), non⟩
  | swap => exact ⟨pC _ (cm (.inr (.inr (.inl rfl)))) (pa _ (List.mem_cons_self ..)), so.cv _ (cm (.inr (.inr (.inl rfl))))⟩
  | tradeN => exact ⟨so, bl _⟩
  | tradeY => exact ⟨pC _ (cm (.inr (.inr (.inr (.inl rfl))))) (pa _ (List.mem_cons_of_mem _ (List.mem_cons_self ..))), bl _⟩
  | take => exact ⟨pH _ (hm (.inl rfl)) (.inr ⟨_, rfl⟩), non⟩
  | give => exact ⟨pH _ (hm (.inr (.inl rfl))) (.inl rfl), non⟩
  | reachN => exact ⟨so, bl _⟩
  | reachY => exact ⟨pH _ (hm (.inr (.inr rfl))) (.inr ⟨_, rfl⟩), bl _⟩
  | lay =>
    have m := bm (.inl rfl)
    refine ⟨pB _ m (fun v hv => ?_) ?_, non⟩
    · rcases List.mem_append.mp hv with h | h
      · exact so.vals _ m v h
      · rw [List.mem_singleton.mp h]
        exact pa _ (List.mem_cons_self ..)
    · rw [List.length_append]
      have := ln nm m
      show _ + 1 ≤ 900
      omega
  | fetch hh =>
    have m := bm (.inr rfl)
    have vs := so.vals _ m
    have le := so.len _ m
    rw [hh] at vs le
    rw [List.length_cons] at le
    exact ⟨pB _ m (fun v hv => vs v (List.mem_cons_of_mem _ hv)) (by omega), vs _ (List.mem_cons_self ..)⟩
theorem valV_in {kvs : List (Key × V)} {k : Key} {v : V} (h : valV kvs k = some v) : (k, v) ∈ kvs := by
  induction kvs with
  | nil => cases h
  | cons p r ih =>
    obtain ⟨k', v'⟩ := p
    by_cases c : k' = k
    · subst c
      rw [valV_pos rfl] at h
      cases h
      exact List.mem_cons_self ..
    · rw [valV_neg c] at h
      exact List.mem_cons_of_mem _ (ih h)
theorem at_set {α : Type} {l : List α} {k i : Nat} {x y : α} (h : (l.set k x)[i]? = some y) : (i = k ∧ y = x ∧ k < l.length) ∨ (i ≠ k ∧ l[i]? = some y) := by
  by_cases c : k = i
  · subst c
    have hk : k < l.length := by
      have z := (List.getElem?_eq_some_iff.mp h).1
      rw [List.length_set] at z
      exact z
    rw [List.getElem?_set_self hk] at h
    exact .inl ⟨rfl, (Option.some.inj h).symm, hk⟩
  · rw [List.getElem?_set_ne c] at h
    exact .inr ⟨fun e => c e.symm, h⟩
/-- what a work comes to, by its answers so far: where it stands, what it has said -/
abbrev StF := List V → Stop × List V
def BStop (K : PySem.W.Frag) (F : StF) : Beh := fun H ans pend fin words => words = (F ans).2 ∧ match (F ans).1 with
  | .wish kind nm args => fin = .non ∧ ∃ t, pend = .ref t ∧ SqT K H t (wishV kind nm args)
  | .told v => pend = .non ∧ ∃ t, fin = .ref t ∧ SqT K H t [.str "told", v]
  | .failed v => pend = .non ∧ ∃ t, fin = .ref t ∧ SqT K H t [.str "failed", v]
theorem bstop_s {K : PySem.W.Frag} {F : StF} : BehS K (BStop K F) := by
  intro H H' ans p e ws tk ⟨h0, h⟩
  refine ⟨h0, ?_⟩
  revert h
  cases (F ans).1 with
  | wish kind nm args => exact fun ⟨h1, t, h2, h3⟩ => ⟨h1, t, h2, tk _ _ h3⟩
  | told v => exact fun ⟨h1, t, h2, h3⟩ => ⟨h1, t, h2, tk _ _ h3⟩
  | failed v => exact fun ⟨h1, t, h2, h3⟩ => ⟨h1, t, h2, tk _ _ h3⟩
def canS (sm : V → V → Bool) (S : Sto) (F : StF) (ans : List V) : Bool := match (F ans).1 with
  | .wish kind nm args => letsM sm S kind nm args
  | _ => false
/-- a run of a plan: its things, the answers so far, the steps done -/
structure RunG (K : PySem.W.Frag) (sm : V → V → Bool) (CR CT CP : Addr) (rowss : List StF) (sh : Addr) (H : Hp) (r : Addr) (R : RS) (S : Sto) (anss : List (List V)) (steps : List (Nat × List V × V)) : Prop where
  run : RunI K CR CT CP H r R
  sh : R.sh = sh
  th : ThM K H R.T S
  len : R.places.length = rowss.length
  dn : R.done.length = steps.length
  st : ∀ (i : Nat) (x : V) (s : Nat × List V × V), R.done[i]? = some x → steps[i]? = some s → ∃ t wt, x = .ref t ∧ SqT K H t [.int (s.1 : Nat), .ref wt, s.2.2] ∧ SqT K H wt s.2.1
  pl : ∀ (j : Nat) (x : PS) (rows : StF) (ans : List V), R.places[j]? = some x → rowss[j]? = some rows → anss[j]? = some ans → x.ans = ans ∧ BStop K rows H x.ans x.pend x.fin x.words
section
variable {K : PySem.W.Frag} {sm : V → V → Bool} {CR CT CP : Addr} {rowss : List StF} {sh : Addr} {H H' H0 : Hp} {r : Addr} {R : RS} {S : Sto} {anss : List (List V)} {steps : List (Nat × List V × V)} {N : Nms}
theorem RunG.keep {p : Addr} (Z : RunG K sm CR CT CP rowss sh H r R S anss steps) (e : ∀ b o, b ≠ p → H b = some o → H' b = some o) (d : DK H H') (nr : r ≠ p) (n1 : R.pl ≠ p) (n2 : R.dn ≠ p) (np : ∃ xs, H p = some (.lst xs)) : RunG K sm CR CT CP rowss sh H' r R S anss steps := by
  obtain ⟨⟨⟨a1, ⟨t1, t2, t3, t4, t5⟩, a3, a4, a5⟩, ne⟩, b1, b2, b3, b4, b5, b6⟩ := Z
  obtain ⟨xs, hp⟩ := np
  have k : ∀ {b : Addr} {o : HO}, H b = some o → (∀ ys, o ≠ .lst ys) → H' b = some o := fun {b o} q n => e b o (fun z => by
    rw [z, hp] at q
    exact n _ (Option.some.inj q).symm) q
  exact ⟨⟨⟨e _ _ nr a1, ⟨k t1 fun _ z => (nomatch z), k t2 fun _ z => (nomatch z), k t3 fun _ z => (nomatch z), k t4 fun _ z => (nomatch z), k t5 fun _ z => (nomatch z)⟩, e _ _ n1 a3, fun x hx => ⟨k (a4 x hx).ob fun _ z => (nomatch z), d.tk _ _ (a4 x hx).a, d.tk _ _ (a4 x hx).w⟩, e _ _ n2 a5⟩, ne⟩,
    b1, b2.tk d.tk, b3, b4, fun i x s h1 h2 => by
      obtain ⟨t, wt, e1, e2, e3⟩ := b5 i x s h1 h2
      exact ⟨t, wt, e1, d.tk _ _ e2, d.tk _ _ e3⟩, fun j x rows ans h1 h2 h3 => ⟨(b6 j x rows ans h1 h2 h3).1, bstop_s _ _ _ _ _ _ d.tk (b6 j x rows ans h1 h2 h3).2⟩⟩
theorem RunG.nx (e : ∀ b o, H b = some o → (∀ φ, o ≠ .ext φ) → H' b = some o) (Z : RunG K sm CR CT CP rowss sh H r R S anss steps) : RunG K sm CR CT CP rowss sh H' r R S anss steps := by
  have tk : TK K H H' := fun a xs q => by
    rcases q with (q | ⟨o, q⟩) | q
    · exact .inl (.inl (e _ _ q fun _ z => (nomatch z)))
    · exact .inl (.inr ⟨o, e _ _ q fun _ z => (nomatch z)⟩)
    · exact .inr q
  obtain ⟨⟨⟨a1, ⟨t1, t2, t3, t4, t5⟩, a3, a4, a5⟩, ne⟩, b1, b2, b3, b4, b5, b6⟩ := Z
  exact ⟨⟨⟨e _ _ a1 fun _ z => (nomatch z), ⟨e _ _ t1 fun _ z => (nomatch z), e _ _ t2 fun _ z => (nomatch z), e _ _ t3 fun _ z => (nomatch z), e _ _ t4 fun _ z => (nomatch z), e _ _ t5 fun _ z => (nomatch z)⟩, e _ _ a3 fun _ z => (nomatch z),
    fun x hx => ⟨e _ _ (a4 x hx).ob fun _ z => (nomatch z), tk _ _ (a4 x hx).a, tk _ _ (a4 x hx).w⟩, e _ _ a5 fun _ z => (nomatch z)⟩, ne⟩,
    b1, b2.tk tk, b3, b4, fun i x s h1 h2 => by
      obtain ⟨t, wt, e1, e2, e3⟩ := b5 i x s h1 h2
      exact ⟨t, wt, e1, tk _ _ e2, tk _ _ e3⟩, fun j x rows ans h1 h2 h3 => ⟨(b6 j x rows ans h1 h2 h3).1, bstop_s _ _ _ _ _ _ tk (b6 j x rows ans h1 h2 h3).2⟩⟩
/-- which works of a run can go -/
theorem RunG.can {f : Nat → Bool} (Z : RunG K sm CR CT CP rowss sh H r R S anss steps) (t0 : TK K H0 H) (hsm : SmOk K H0 sm) (la : anss.length = rowss.length) (ok : ∀ (i : Nat) (rows : StF) (ans : List V), rowss[i]? = some rows → anss[i]? = some ans → ∀ kind nm args, (rows ans).1 = .wish kind nm args → WishOk N kind nm args ∧ ∀ a ∈ args, PV K H0 a) (so : StoOk K H0 N S) (hc : ∀ (i : Nat) (rows : StF) (ans : List V), rowss[i]? = some rows → anss[i]? = some ans → f i = canS sm S rows ans) :
    ∀ (i : Nat) (y : PS), R.places[i]? = some y → CanGo K (RD K 3) H R.T y.pend (f i) := fun i y hy => by
  have hi := (List.getElem?_eq_some_iff.mp hy).1
  have hl := Z.len
  obtain ⟨rows, hrow⟩ : ∃ rows, rowss[i]? = some rows := ⟨_, List.getElem?_eq_getElem (by omega)⟩
  obtain ⟨ans, hans⟩ : ∃ ans, anss[i]? = some ans := ⟨_, List.getElem?_eq_getElem (by omega)⟩
  obtain ⟨ea, _, hb⟩ := Z.pl i y rows ans hy hrow hans
  rw [ea] at hb
  rw [hc i rows ans hrow hans]
  have sv := ok i rows ans hrow hans
  unfold canS
  revert hb sv
  cases (rows ans).1 with
  | wish kind nm args =>
    intro ⟨_, t, ep, hw⟩ sv
    obtain ⟨wo, va⟩ := sv _ _ _ rfl
    rw [ep]
    exact canGo_of t0 hsm hw wo va Z.th so
  | told v => exact fun ⟨ep, _⟩ _ => .inl ⟨ep, rfl⟩
  | failed v => exact fun ⟨ep, _⟩ _ => .inl ⟨ep, rfl⟩
end
section
variable {P : Program} {w : World} {K : PySem.W.Frag} {mg : Str → Option Value} {base : Heap} {C CS CP CH CV CR CT CW CC pS : Addr} {S : Addr → Option Sp} {kw : Nat} {sm : V → V → Bool}
/-- works of any kind, each of which comes to what its rows say -/
def WorksG (P : Program) (w : World) (K : PySem.W.Frag) (mg : Str → Option Value) (base : Heap) (C CS CH : Addr) (kw : Nat) (sm : V → V → Bool) (S0 : SS) (rowss : List StF) (J : Hp → Prop) (Ad : Nat → List V → Prop) : Prop := ∀ (i : Nat) (rows : StF), rowss[i]? = some rows → ∃ g, S0.works[i]? = some (.ref g) ∧ WorkJ P w K mg base C CS CH kw 3 S0 g i J (Ad i) (BStop K rows)
theorem go_st {S0 : SS} {rowss : List StF} {J : Hp → Prop} {Ad : Nat → List V → Prop} {H0 H : Hp} {N : Nms} {sh r : Addr} {R : RS} {S1 S2 : Sto} {anss : List (List V)} {steps : List (Nat × List V × V)} {k : Nat} {rows : StF} {ans : List V} {kind nm : Str} {args : List V} {a : V} {Q : VK} {E : XK} (hx : PySem.W.exmOne K (.ref CH) (.ref CH) = some true) (Wk : WorksG P w K mg base C CS CH kw sm S0 rowss J Ad) (Js : JSt J) (SK : StepKs K w CT pS S)
    (hS : ShopAt K CS H sh S0) (hJ : J H) (t0 : TK K H0 H) (hsm : SmOk K H0 sm) (dj : Disj N) (Z : RunG K sm CR CT CP rowss sh H r R S1 anss steps) (hrow : rowss[k]? = some rows) (hans : anss[k]? = some ans) (hst : (rows ans).1 = .wish kind nm args) (wo : WishOk N kind nm args) (pa : ∀ x ∈ args, PV K H0 x) (so : StoOk K H0 N S1) (fs : steps.length ≤ 1000)
    (go : letsM sm S1 kind nm args = true) (dm : DoM sm S1 (.int (k : Nat)) nm kind args a S2) (ad : Ad k (ans ++ [a])) (al : ans.length + 1 ≤ 900)
    (cont : ∀ (R' : RS) (H' : Hp), But3 r R.pl R.dn H H' → R'.pl = R.pl → R'.dn = R.dn → RunG K sm CR CT CP rowss sh H' r R' S2 (anss.set k (ans ++ [a])) (steps ++ [(k, wishV kind nm args, a)]) → Q a H') :
    spGo P w K CR CT CP CW CC pS S (RD K 3) (spCome P w K mg base C CS CP CH CV kw 3) [.ref r, .int (k : Nat)] H Q E := by
  obtain ⟨y, ey⟩ : ∃ y, R.places[k]? = some y := ⟨_, List.getElem?_eq_getElem (by rw [Z.len]; exact (List.getElem?_eq_some_iff.mp hrow).1)⟩
  obtain ⟨ea, _, eb⟩ := Z.pl k y rows ans ey hrow hans
  obtain ⟨g, hg, hW⟩ := Wk k rows hrow
  rw [ea, hst] at eb
  obtain ⟨_, wt, hp, hwt⟩ := eb
  have hR := Z.run.at_
  have cg := canGo_of t0 hsm hwt wo pa Z.th so
  rw [go] at cg
  refine goT_use (n := k) (a := a) (S' := S2) (SSh := S0) bstop_s hx hW Js Z.run (by rw [Z.sh]; exact hS) hJ ey hg (by rw [hp]; exact cg) (by rw [ea]; exact ad) (by rw [hp]; exact doesT SK t0 hsm dj hwt wo pa dm Z.th so) (by rw [ea]; omega) ?_ fun R' y' H' b3 RI went ey' hb => ?_
  · rw [Z.dn]
    exact Nat.lt_of_lt_of_le (Nat.lt_succ_of_le fs) (small_sz (n := 1001) (by decide))
  · have tk := run_tk hR b3
    refine cont R' H' b3 went.pl went.dn ⟨RI, went.sh.trans Z.sh, went.th, by rw [went.places, List.length_set]; exact Z.len, ?_, fun i x s h1 h2 => ?_, fun j x rows' ans' h1 h2 h3 => ?_⟩
    · obtain ⟨t', e, _⟩ := went.done
      rw [e, List.length_append, List.length_append, Z.dn]
      rfl
    · obtain ⟨t', e, et⟩ := went.done
      rw [e] at h1
      by_cases c : i < R.done.length
      · rw [List.getElem?_append_left c] at h1
        rw [List.getElem?_append_left (Z.dn ▸ c)] at h2
        obtain ⟨t, wt', e1, e2, e3⟩ := Z.st i x s h1 h2
        exact ⟨t, wt', e1, tk _ _ e2, tk _ _ e3⟩
      · have z := (List.getElem?_eq_some_iff.mp h1).1
        rw [List.length_append] at z
        have ei : i = R.done.length := by
          have : i < R.done.length + 1 := z
          omega
        rw [ei, List.getElem?_append_right (Nat.le_refl _), Nat.sub_self] at h1
        rw [ei, Z.dn, List.getElem?_append_right (Nat.le_refl _), Nat.sub_self] at h2
        obtain rfl := (Option.some.inj (show some _ = some x from h1))
        obtain rfl := (Option.some.inj (show some _ = some s from h2))
        rw [hp] at et
        exact ⟨t', wt, rfl, et, tk _ _ hwt⟩
    · rw [went.places] at h1
      rcases at_set h1 with ⟨rfl, rfl, _⟩ | ⟨ne, h1⟩
      · rcases at_set h3 with ⟨_, rfl, _⟩ | ⟨z, _⟩
        · obtain rfl := Option.some.inj (hrow.symm.trans h2)
          exact ⟨by rw [ey', ea], hb⟩
        · exact absurd rfl z
      · rcases at_set h3 with ⟨z, _⟩ | ⟨_, h3⟩
        · exact absurd z ne
        · obtain ⟨q1, q2⟩ := Z.pl j x rows' ans' h1 h2 h3
          exact ⟨q1, bstop_s _ _ _ _ _ _ tk q2⟩
theorem new_st {S0 : SS} {rowss : List StF} {J : Hp → Prop} {Ad : Nat → List V → Prop} {H : Hp} {sh r dx : Addr} {Q : VK} {E : XK} (hx : PySem.W.exmOne K (.ref CH) (.ref CH) = some true) (Wk : WorksG P w K mg base C CS CH kw sm S0 rowss J Ad) (Js : JSt J) (A0 : ∀ i, Ad i [])
    (hS : ShopAt K CS H sh S0) (hJ : J H) (ho : H r = some (.ins CR dx [])) (hm : S0.many = (rowss.length : Nat)) (few : rowss.length ≤ 1000) (n1 : S0.locks.Nodup) (n2 : S0.beltN.Nodup) (l1 : S0.locks.length ≤ 1000) (l2 : S0.beltN.length ≤ 1000)
    (cont : ∀ (R' : RS) (H' : Hp), But r H H' → H R'.pl = none → H R'.dn = none → RunG K sm CR CT CP rowss sh H' r R' ⟨S0.cells, S0.locks.map fun s => (Sum.inr s, V.non), S0.beltN, fun _ => [], S0.belts⟩ (rowss.map fun _ => []) [] → Q .non H') :
    spRI K CR CS CT (spCome P w K mg base C CS CP CH CV kw 3) [.ref r, .ref sh] H Q E := by
  have pick : ∃ (gs : Nat → Addr) (rs : Nat → StF), ∀ i, i < rowss.length → rowss[i]? = some (rs i) ∧ S0.works[i]? = some (.ref (gs i)) ∧ WorkJ P w K mg base C CS CH kw 3 S0 (gs i) i J (Ad i) (BStop K (rs i)) := by
    have W2 : ∀ i, ∃ q : Addr × StF, i < rowss.length → rowss[i]? = some q.2 ∧ S0.works[i]? = some (.ref q.1) ∧ WorkJ P w K mg base C CS CH kw 3 S0 q.1 i J (Ad i) (BStop K q.2) := fun i => by
      by_cases h : i < rowss.length
      · obtain ⟨g, q⟩ := Wk i rowss[i] (List.getElem?_eq_getElem h)
        exact ⟨(g, rowss[i]), fun _ => ⟨List.getElem?_eq_getElem h, q⟩⟩
      · exact ⟨(0, fun _ => (.told .non, [])), fun z => absurd z h⟩
    exact ⟨fun i => (W2 i).choose.1, fun i => (W2 i).choose.2, fun i hi => (W2 i).choose_spec hi⟩
  obtain ⟨gs, rs, hg⟩ := pick
  have lbs : S0.belts.length ≤ 1000 := by
    have z := congrArg List.length hS.bn
    rw [List.length_map, List.length_map] at z
    omega
  refine riJ_use (S := S0) (m := rowss.length) (fun i => BStop K (rs i)) Js Ad gs hx (fun _ _ => bstop_s) (fun i hi => A0 i) (fun i hi => (hg i hi).2.1) (fun i hi => (hg i hi).2.2) ho hS hJ hm few n1 n2 l1 lbs fun R H' but RI esh ec' eh er erows es elen each ed f1 f2 => ?_
  refine cont R H' but f1 f2 ⟨RI, esh, ⟨ec', eh, ⟨er, fun nm m => ?_⟩, es⟩, elen, by rw [ed]; rfl, fun i x s h1 h2 => (nomatch h2), fun j x rows ans h1 h2 h3 => ?_⟩
  · obtain ⟨v, hv⟩ := valV_mem (kvs := R.T.rows) (k := Sum.inr nm) (by rw [er]; exact List.mem_map.mpr ⟨nm, m, rfl⟩)
    obtain ⟨a, e1, e2⟩ := erows _ (valV_in hv)
    exact ⟨a, hv.trans (congrArg some e1), e2⟩
  · obtain ⟨q1, q2⟩ := each j x h1
    have hj := (List.getElem?_eq_some_iff.mp h2).1
    obtain rfl := Option.some.inj (h2.symm.trans (hg j hj).1)
    have ea : ans = [] := by
      rw [List.getElem?_map] at h3
      obtain ⟨_, _, e⟩ := Option.map_eq_some_iff.mp h3
      exact e.symm
    rw [ea, q1]
    exact ⟨rfl, q2⟩
end
end TW
namespace L2
open PySem PySem.Spec PyProof.Rows
section
variable {X : Cx} {pins : List (Addr × Obj)} {σ : St} {H : Hp} {s : Shared} {L : List Addr}
/-- behind the call what L holds is tracked again; meanwhile nothing was tracked there -/
theorem ce_back2 {Q Q0 : VK} {u : Value} {s' : Shared} (I : Inv X pins σ H s) (hL : ExtL H L) (hq : ∀ v H', (∀ b ∈ L, H' b = none) → Q0 v H' → Q v (reL H H' L)) (h : CE X.stack X.prog X.w (hidL H L) s Q0 u s') : CE X.stack X.prog X.w H s Q u s' := by
  refine ce_back I hL ?_
  obtain ⟨v, H', os, bare, un, hok, r, q⟩ := h
  refine ⟨v, H', os, bare, un, hok, r, hq v H' (fun b m => ?_) q⟩
  obtain ⟨φ, e⟩ := hL b m
  obtain ⟨_, ⟨o, ho⟩, _⟩ := (show ObjOk X.prog X.w H s.heap b (.ext φ) from I.hok b _ e)
  exact un.free b o ho (hidL_in m) (by simp)
theorem run_fnH2 {k : Nat} {f : Addr} {fd : FuncData} {ps : List Str} {ds : List Value} {dvs : List V} {sp : Heap → Sp} {Q : VK} {us : List Value} {vs : List V} (F : ∀ B, (∀ b o, X.base.get? b = some o → B.get? b = some o) → FnOk X.prog X.w X.K X.mg B (L2.CX X.prog X.w) k f fd ps (sp B)) (hr : Room k X.A)
    (hb : Binds X.K fd ps ds) (hd : Vals dvs ds) (hfn : ∀ y, X.fn y = true) (I : Inv X pins σ H s) (r : Vals vs us)
    (h : ∃ L, ExtL H L ∧ ∀ B, Known X σ H L B → sp B (vs ++ dvs) (hidL H L) (fun v H' => (∀ b ∈ L, H' b = none) → Q v (reL H H' L)) (fun _ _ _ => False)) : wpAny (model X.prog X.w) X.A (call (.ref f) us) (EP X pins σ Q) X.xe s := by
  obtain ⟨L, hL, h⟩ := h
  obtain ⟨B, kb, e0⟩ := known_base I hL hfn
  have q := h B kb
  have G := F B kb.old
  have r2 : Vals (vs ++ dvs) (us ++ ds) := r.append hd
  have hl : (us ++ ds).length = ps.length := by
    rw [← r2.length]
    exact G.len _ _ _ _ q
  refine wpAny_call (codeAny_mono (G.run X.A X.stack s (hidL H L) ⟨us, []⟩ (us ++ ds) (vs ++ dvs) _ _ hr e0 (hb s us I.kIn hl) r2 q) fun res s' back => ?_)
  cases res with
  | error e => exact (cx_false back).elim
  | ok fl =>
    cases fl with
    | ret u => exact I.after (ce_back2 I hL (fun _ _ n q => q n) back)
    | next => exact False.elim back
    | brk => exact False.elim back
    | cont => exact False.elim back
/-- o.m(e, ..) over a larger base -/
def tMethJ (X : Cx) (C : Addr) (m : Str) (sp : Heap → Sp) (dvs : List V) (to : TE) (t : TA) : TE := fun σ H Q => to σ H fun y H1 => ∃ a dx fs, y = .ref a ∧ H1 a = some (.ins C dx fs) ∧ fs.lookup m = none ∧
  t σ H1 fun vs H2 => ∃ L, ExtL H2 L ∧ ∀ B, Known X σ H2 L B → sp B (.ref a :: (vs ++ dvs)) (hidL H2 L) (fun v H' => (∀ b ∈ L, H' b = none) → Q v (reL H2 H' L)) (fun _ _ _ => False)
theorem pe_methJ {k : Nat} {f C : Addr} {fd : FuncData} {ps : List Str} {ds : List Value} {dvs : List V} {sp : Heap → Sp} {m : Str} {pos apos : Pos} {e o : Expr} {es : List Expr} {ta : TA} {to : TE} {pl : Sem Bool} (he : PE X o to) (c : Cls X.K C) (hm : Meth X.K C m f) (F : ∀ B, (∀ b o, X.base.get? b = some o → B.get? b = some o) → FnOk X.prog X.w X.K X.mg B (L2.CX X.prog X.w) k f fd ps (sp B)) (hr : Room k X.A) (hb : Binds X.K fd ps ds) (hd : Vals dvs ds) (hfn : ∀ y, X.fn y = true) (ha : PA X (e :: es) ta)
    (hst : starEach (e :: es) X.env = (false, eval e X.env) :: starEach es X.env := by rfl) (hpl : (backTo pos (starEach es X.env)).any (·.1) = false := by rfl)
    (ht : eval (.Call (.Attribute o m apos) (e :: es) [] pos) X.env = (do
      let ov ← eval o X.env
      standAt apos.atName
      let (f, first) ← holding [ov] (getMethod ov m pl)
      callWith pos f first (backTo pos (starEach (e :: es) X.env)) (backToKw pos (keywordEach [] X.env))) := by rfl) :
    PE X (.Call (.Attribute o m apos) (e :: es) [] pos) (tMethJ X C m sp dvs to ta) := by
  refine ⟨fun pins s σ H Q I h => ?_⟩
  refine PySem.W.methodCall_KW (pl := pl) (thn (he.run pins s σ H _ I h) fun u s1 ⟨y, H1, I1, rx, a, dx, fs, ex, ea, l, q⟩ => ?_) ht
  subst ex
  obtain rfl : u = Value.ref a := rx
  refine getmeth_ok I1 ea c hm l ?_
  refine PySem.W.callWith_K (first := [.ref a]) (h₀ := X.base) I.ok.mod.kin hm.kp (thn (ha.run pos pins s1 σ H1 _ I1 q) fun us s2 ⟨vs, H2, I2, r, q2⟩ => ⟨I2.kIn, ?_⟩) hst hpl
  exact run_fnH2 (us := .ref a :: us) (vs := .ref a :: vs) F hr hb hd hfn I2 (.cons rfl r) q2
end
section
variable {X : Cx} {pins : List (Addr × Obj)} {σ : St} {H : Hp} {s : Shared} {k : Nat} {f C : Addr} {fd : FuncData} {ps : List Str} {ds : List Value} {dvs : List V} {sp : Heap → Sp} {x : Str} {p pos : Pos} {e : Expr} {es : List Expr} {t : TA}
/-- an object is made by an __init__ that keeps its promise over every base -/
theorem run_makeH {Q : VK} {us : List Value} {vs : List V} (M : Mk X.K C f) (F : ∀ B, (∀ b o, X.base.get? b = some o → B.get? b = some o) → FnOk X.prog X.w X.K X.mg B CX0 k f fd ps (sp B)) (hr : Room (k + 1) X.A) (hb : Binds X.K fd ps ds) (hd : Vals dvs ds)
    (hfn : ∀ y, X.fn y = true) (I : Inv X pins σ H s) (r : Vals vs us)
    (h : ∀ x dx, H x = none → H dx = none → dx ≠ x → ∃ L, ExtL (upd (upd H dx (.own x)) x (.ins C dx [])) L ∧ ∀ B, Known X σ (upd (upd H dx (.own x)) x (.ins C dx [])) L B →
      sp B (.ref x :: (vs ++ dvs)) (hidL (upd (upd H dx (.own x)) x (.ins C dx [])) L) (fun v H' => v = .non ∧ ((∀ b ∈ L, H' b = none) → Q (.ref x) (reL (upd (upd H dx (.own x)) x (.ins C dx [])) H' L))) (fun _ _ _ => False)) :
    wpAny (model X.prog X.w) X.A (call (.ref C) us) (EP X pins σ Q) X.xe s := by
  obtain ⟨L, hL, hq⟩ := h (s.heap.objs.size + 1) s.heap.objs.size (I.hok.fresh (Nat.le_succ _)) (I.hok.fresh (Nat.le_refl _)) (Nat.ne_of_lt (Nat.lt_succ_self _))
  have I2 := Inv.made (C := C) I
  obtain ⟨B, kb, e0⟩ := known_base I2 hL hfn
  have q := hq B kb
  have G := F B kb.old
  have r2 : Vals (V.ref (s.heap.objs.size + 1) :: (vs ++ dvs)) (Value.ref (s.heap.objs.size + 1) :: (us ++ ds)) := .cons rfl (r.append hd)
  have hl : (Value.ref (s.heap.objs.size + 1) :: us ++ ds).length = ps.length := by
    have e := r2.length
    rw [G.len _ _ _ _ q] at e
    exact e.symm
  refine wpAny_call (make_map (f := f) I.kIn M.makes M.init (beq_iff_eq.mp M.fn) (codeAny_mono (G.run _ X.stack _ _ ⟨Value.ref (s.heap.objs.size + 1) :: us, []⟩ (Value.ref (s.heap.objs.size + 1) :: (us ++ ds)) _ _ (fun _ _ _ => False) (hr.make C us [])
    (e0.make C us []) (hb _ (Value.ref (s.heap.objs.size + 1) :: us) I2.kIn hl) r2 q) fun r s' hq' => ?_))
  cases r with
  | error e => exact False.elim hq'
  | ok fl =>
    cases fl with
    | ret u =>
      obtain ⟨v, H', I3, rv, ev, q3⟩ := I2.after (ce_back2 (Q := fun v H' => v = .non ∧ Q (.ref (s.heap.objs.size + 1)) H') I2 hL (fun _ _ n q => ⟨q.1, q.2 n⟩) hq')
      subst ev
      exact ⟨rv, ⟨V.ref (s.heap.objs.size + 1), H', I3, rfl, q3⟩⟩
    | next => exact False.elim hq'
    | brk => exact False.elim hq'
    | cont => exact False.elim hq'
def tMakeH (X : Cx) (C : Addr) (sp : Heap → Sp) (dvs : List V) (t : TA) : TE := fun σ H Q => t σ H fun vs H => ∀ x dx, H x = none → H dx = none → dx ≠ x → ∃ L, ExtL (upd (upd H dx (.own x)) x (.ins C dx [])) L ∧ ∀ B, Known X σ (upd (upd H dx (.own x)) x (.ins C dx [])) L B →
      sp B (.ref x :: (vs ++ dvs)) (hidL (upd (upd H dx (.own x)) x (.ins C dx [])) L) (fun v H' => v = .non ∧ ((∀ b ∈ L, H' b = none) → Q (.ref x) (reL (upd (upd H dx (.own x)) x (.ins C dx [])) H' L))) (fun _ _ _ => False)
theorem pe_makeH (M : Mk X.K C f) (F : ∀ B, (∀ b o, X.base.get? b = some o → B.get? b = some o) → FnOk X.prog X.w X.K X.mg B CX0 k f fd ps (sp B)) (hr : Room (k + 1) X.A) (hg : Gl X x) (hm : X.mg x = some (.ref C)) (hb : Binds X.K fd ps ds) (hd : Vals dvs ds) (hfn : ∀ y, X.fn y = true)
    (ha : PA X (e :: es) t) (hdb : (x == ("__debug__" : Str)) = false := by decide) (he : starEach (e :: es) X.env = (false, eval e X.env) :: starEach es X.env := by rfl) (hpl : (backTo pos (starEach es X.env)).any (·.1) = false := by rfl) :
    PE X (.Call (.Name x p) (e :: es) [] pos) (tMakeH X C sp dvs t) := by
  refine ⟨fun pins s σ H Q I h => ?_⟩
  refine wpAny_Call_Name_kw (ld_glob I hg hm ?_ hdb)
  refine PySem.W.callWith_K (h₀ := X.base) I.ok.mod.kin M.kp (thn (ha.run pos pins s σ H _ I h) fun us s1 ⟨vs, H1, I1, r, q⟩ => ⟨I1.kIn, ?_⟩) he hpl
  exact run_makeH M F hr hb hd hfn I1 r q
end
/-- a method, as it is called -/
def MethOk (P : Program) (w : World) (K : PySem.W.Frag) (mg : Str → Option Value) (base : Heap) (CX : CXT) (k : Nat) (C : Addr) (m : Str) (ps : List Str) (sp : Sp) : Prop := ∃ f fd, FnOk P w K mg base CX k f fd ps sp ∧ Meth K C m f ∧ Binds K fd ps []
/-- a def of the module, as it is called -/
def GlobOk (P : Program) (w : World) (K : PySem.W.Frag) (mg : Str → Option Value) (base : Heap) (CX : CXT) (k : Nat) (x : Str) (ps : List Str) (sp : Sp) : Prop := ∃ f fd, FnOk P w K mg base CX k f fd ps sp ∧ mg x = some (.ref f) ∧ PySem.W.keepIn K (.ref f) = true ∧ Binds K fd ps []
section
variable {X : Cx} {pins : List (Addr × Obj)} {σ : St} {H : Hp} {s : Shared} {L : List Addr}
/-- o.m() over a larger base -/
theorem pe_methJ0 {k : Nat} {f C : Addr} {fd : FuncData} {ps : List Str} {ds : List Value} {dvs : List V} {sp : Heap → Sp} {m : Str} {pos apos : Pos} {o : Expr} {to : TE} {pl : Sem Bool} (he : PE X o to) (c : Cls X.K C) (hm : Meth X.K C m f) (F : ∀ B, (∀ b o, X.base.get? b = some o → B.get? b = some o) → FnOk X.prog X.w X.K X.mg B (L2.CX X.prog X.w) k f fd ps (sp B)) (hr : Room k X.A) (hb : Binds X.K fd ps ds) (hd : Vals dvs ds) (hfn : ∀ y, X.fn y = true)
    (ht : eval (.Call (.Attribute o m apos) [] [] pos) X.env = (do
      let ov ← eval o X.env
      standAt apos.atName
      let (f, first) ← holding [ov] (getMethod ov m pl)
      callWith pos f first (backTo pos (starEach [] X.env)) (backToKw pos (keywordEach [] X.env))) := by rfl) :
    PE X (.Call (.Attribute o m apos) [] [] pos) (tMethJ X C m sp dvs to tNil) := by
  refine ⟨fun pins s σ H Q I h => ?_⟩
  refine PySem.W.methodCall_KW (pl := pl) (thn (he.run pins s σ H _ I h) fun u s1 ⟨y, H1, I1, rx, a, dx, fs, ex, ea, l, q⟩ => ?_) ht
  subst ex
  obtain rfl : u = Value.ref a := rx
  refine getmeth_ok I1 ea c hm l ?_
  exact PySem.W.callWith_K0 (first := [.ref a]) I1.kIn hm.kp (run_fnH2 (us := [.ref a]) (vs := [.ref a]) F hr hb hd hfn I1 (.cons rfl .nil) q)
def tCallJ (X : Cx) (sp : Heap → Sp) (dvs : List V) (t : TA) : TE := fun σ H Q => t σ H fun vs H1 => ∃ L, ExtL H1 L ∧ ∀ B, Known X σ H1 L B → sp B (vs ++ dvs) (hidL H1 L) (fun v H' => (∀ b ∈ L, H' b = none) → Q v (reL H1 H' L)) (fun _ _ _ => False)
theorem pe_callJ {k : Nat} {f : Addr} {fd : FuncData} {ps : List Str} {ds : List Value} {dvs : List V} {sp : Heap → Sp} {x : Str} {p pos : Pos} {e : Expr} {es : List Expr} {t : TA} (F : ∀ B, (∀ b o, X.base.get? b = some o → B.get? b = some o) → FnOk X.prog X.w X.K X.mg B (L2.CX X.prog X.w) k f fd ps (sp B)) (hr : Room k X.A) (hg : Gl X x) (hm : X.mg x = some (.ref f)) (hk : PySem.W.keepIn X.K (.ref f) = true) (hb : Binds X.K fd ps ds) (hd : Vals dvs ds) (hfn : ∀ y, X.fn y = true) (ha : PA X (e :: es) t)
    (hdb : (x == ("__debug__" : Str)) = false := by decide) (he : starEach (e :: es) X.env = (false, eval e X.env) :: starEach es X.env := by rfl) (hpl : (backTo pos (starEach es X.env)).any (·.1) = false := by rfl) :
    PE X (.Call (.Name x p) (e :: es) [] pos) (tCallJ X sp dvs t) := by
  refine ⟨fun pins s σ H Q I h => ?_⟩
  refine wpAny_Call_Name_kw (ld_glob I hg hm ?_ hdb)
  exact PySem.W.callWith_K (h₀ := X.base) I.ok.mod.kin hk (thn (ha.run pos pins s σ H _ I h) fun us s1 ⟨vs, H1, I1, r, q⟩ => ⟨I1.kIn, run_fnH2 F hr hb hd hfn I1 r q⟩) he hpl
end
end L2
namespace TW
open PySem PySem.Spec PyProof.Rows L2
/-- all that is no ext stands as it stood -/
def NX (H H' : Hp) : Prop := ∀ b o, H b = some o → (∀ φ, o ≠ .ext φ) → H' b = some o
section
variable {K : PySem.W.Frag} {CR CT CP CS : Addr} {H H' : Hp} {r sh : Addr} {R : RS}
theorem NX.sq (e : NX H H') : TK K H H' := fun a xs q => by
  rcases q with (q | ⟨o, q⟩) | q
  · exact .inl (.inl (e _ _ q fun _ z => (nomatch z)))
  · exact .inl (.inr ⟨o, e _ _ q fun _ z => (nomatch z)⟩)
  · exact .inr q
theorem NX.shop {S : SS} (e : NX H H') (A : ShopAt K CS H sh S) : ShopAt K CS H' sh S :=
  ⟨e _ _ A.ob fun _ z => (nomatch z), e.sq _ _ A.w, e _ _ A.c fun _ z => (nomatch z), A.cn, e.sq _ _ A.l, e _ _ A.b fun _ z => (nomatch z), A.bn⟩
theorem NX.run (e : NX H H') (A : RunI K CR CT CP H r R) : RunI K CR CT CP H' r R := by
  obtain ⟨⟨a1, ⟨t1, t2, t3, t4, t5⟩, a3, a4, a5⟩, ne⟩ := A
  exact ⟨⟨e _ _ a1 fun _ z => (nomatch z), ⟨e _ _ t1 fun _ z => (nomatch z), e _ _ t2 fun _ z => (nomatch z), e _ _ t3 fun _ z => (nomatch z), e _ _ t4 fun _ z => (nomatch z), e _ _ t5 fun _ z => (nomatch z)⟩, e _ _ a3 fun _ z => (nomatch z),
    fun x hx => ⟨e _ _ (a4 x hx).ob fun _ z => (nomatch z), e.sq _ _ (a4 x hx).a, e.sq _ _ (a4 x hx).w⟩, e _ _ a5 fun _ z => (nomatch z)⟩, ne⟩
theorem NX.hid {L : List Addr} (h : ExtL H L) : NX H (hidL H L) := fun b o e n => (hidL_out (h.out e n)).trans e
/-- what came of a call is there behind it, and what L tracked -/
theorem same_re {L : List Addr} (h : ∀ b ∈ L, H' b = none) : Same H' (reL H H' L) := fun b o e => (reL_out (fun m => by rw [h b m] at e; cases e)).trans e
end
theorem re_keep {H H' : Hp} {L : List Addr} {Bad : Addr → Prop} (k : ∀ b o, ¬ Bad b → hidL H L b = some o → H' b = some o) : ∀ b o, ¬ Bad b → H b = some o → reL H H' L b = some o := fun b o nb e => by
  by_cases m : b ∈ L
  · exact (reL_in m).trans e
  · exact (reL_out m).trans (k b o nb ((hidL_out m).trans e))
end TW
namespace TW
open PySem PySem.Spec PyProof.Rows L2
theorem HandAt.mine {K : PySem.W.Frag} {C : Addr} {H : Hp} {hd dx : Addr} {h : HS} {m : List (Key × V)} (A : HandAt K C H hd dx h) : HandAt K C (upd H h.md (.dK m)) hd dx { h with mine := m } :=
  ⟨(upd_ne (ne_of A.ob A.m (by intro z; cases z))).trans A.ob, tk_dK A.m _ _ A.a, upd_same, (upd_ne (ne_of A.w A.m (by intro z; cases z))).trans A.w⟩
/-- the methods of a hand that a wish may ask -/
structure AskMs (P : Program) (w : World) (K : PySem.W.Frag) (mg : Str → Option Value) (base : Heap) (C CS CH CN CV CL : Addr) : Prop where
  look : ∃ f fd, FnOk P w K mg base (L2.CX P w) 8 f fd ["self", "cell"] (spWish K C CS CH CN CV 3 0 SS.cellN "look") ∧ Meth K C "look" f ∧ Binds K fd ["self", "cell"] []
  put : ∃ f fd, FnOk P w K mg base (L2.CX P w) 8 f fd ["self", "cell", "value"] (spWish K C CS CH CN CV 3 1 SS.cellN "put") ∧ Meth K C "put" f ∧ Binds K fd ["self", "cell", "value"] []
  swap : ∃ f fd, FnOk P w K mg base (L2.CX P w) 8 f fd ["self", "cell", "value"] (spWish K C CS CH CN CV 3 1 SS.cellN "swap") ∧ Meth K C "swap" f ∧ Binds K fd ["self", "cell", "value"] []
  trade : ∃ f fd, FnOk P w K mg base (L2.CX P w) 8 f fd ["self", "cell", "old", "value"] (spWish K C CS CH CN CV 3 2 SS.cellN "trade") ∧ Meth K C "trade" f ∧ Binds K fd ["self", "cell", "old", "value"] []
  until_ : ∃ f fd, FnOk P w K mg base (L2.CX P w) 8 f fd ["self", "cell", "value"] (spWish K C CS CH CN CV 3 1 SS.cellN "until") ∧ Meth K C "until" f ∧ Binds K fd ["self", "cell", "value"] []
  take : ∃ f fd, FnOk P w K mg base (L2.CX P w) 8 f fd ["self", "lock"] (spLock K C CS CH CN "take" (fun _ => some true)) ∧ Meth K C "take" f ∧ Binds K fd ["self", "lock"] []
  give : ∃ f fd, FnOk P w K mg base (L2.CX P w) 8 f fd ["self", "lock"] (spGive K C CS CH CN CL) ∧ Meth K C "give" f ∧ Binds K fd ["self", "lock"] []
  reach : ∃ f fd, FnOk P w K mg base (L2.CX P w) 8 f fd ["self", "lock"] (spLock K C CS CH CN "reach" truthOf) ∧ Meth K C "reach" f ∧ Binds K fd ["self", "lock"] []
  lay : ∃ f fd, FnOk P w K mg base (L2.CX P w) 8 f fd ["self", "belt", "value"] (spWish K C CS CH CN CV 3 1 SS.beltN "lay") ∧ Meth K C "lay" f ∧ Binds K fd ["self", "belt", "value"] []
  fetch : ∃ f fd, FnOk P w K mg base (L2.CX P w) 8 f fd ["self", "belt"] (spWish K C CS CH CN CV 3 0 SS.beltN "fetch") ∧ Meth K C "fetch" f ∧ Binds K fd ["self", "belt"] []
  rest : ∃ f fd, FnOk P w K mg base (L2.CX P w) 3 f fd ["self"] (spRest K C CH) ∧ Meth K C "rest" f ∧ Binds K fd ["self"] []
/-- a wish with any values -/
theorem ask_wish {K : PySem.W.Frag} {C CS CH CN CV : Addr} {H : Hp} {hd dx : Addr} {h : HS} {S : SS} {Q : VK} {E : XK} {name : Str} {nms : SS → List Str} {word : Str} {args : List V} (A : HandAt K C H hd dx h) (hS : ShopAt K CS H h.sh S) (hm : name ∈ nms S) (va : ∀ a ∈ args, Vn K H 3 a true) (a1 : h.asked ≤ h.ans.length) (a2 : h.ans.length ≤ 1000) (hf : h.halted = false)
    (kQ : ∀ v G, h.ans[h.asked]? = some v → HandAt K C G hd dx { h with asked := h.asked + 1 } → (∀ b o, b ≠ hd → b ≠ h.md → H b = some o → G b = some o) → Q v G)
    (kE : ∀ t G, h.asked = h.ans.length → HandAt K C G hd dx { h with pend := .ref t, halted := true } → SqT K G t (.str word :: .str name :: args) → (∀ b o, b ≠ hd → H b = some o → G b = some o) → E (.ref CH) none G) :
    spWish K C CS CH CN CV 3 args.length nms word (.ref hd :: .str name :: args) H Q E :=
  ⟨hd, dx, h, S, .str name, true, args, args.map fun _ => true, rfl, rfl, A, hS, a1, a2, .inl ⟨_, rfl, (decide_eq_true hm).symm⟩, (List.length_map ..).symm, (fun i r c e1 e2 => by
    rw [List.getElem?_map] at e2
    obtain ⟨_, _, rfl⟩ := Option.map_eq_some_iff.mp e2
    exact va r (List.mem_of_getElem? e1)), fun H4 s4 => ⟨fun z => absurd (hf.symm.trans z) (by decide), fun _ z => (nomatch z), (fun _ _ i r e1 e2 => by
    rw [List.getElem?_map] at e2
    obtain ⟨_, _, z⟩ := Option.map_eq_some_iff.mp e2
    cases z), fun _ _ _ => ⟨fun v hv => kQ v _ hv ((A.same s4).set ⟨rfl, rfl, rfl, rfl, rfl, rfl⟩) fun b o n1 n2 e => (upd_ne n1).trans (s4 _ _ e), fun t ht e => kE t _ e ((A.same s4).set ⟨rfl, rfl, rfl, rfl, rfl, rfl⟩) (seqT_ins (A.same s4).ob (SqT.of ht)) fun b o n1 e => (upd_ne n1).trans (s4 _ _ e)⟩⟩⟩
section
variable {K : PySem.W.Frag} {C CS CH CN CV CL : Addr} {H : Hp} {hd dx : Addr} {h : HS} {S : SS} {Q : VK} {E : XK} {name : Str}
/-- a wish with one value -/
theorem ask_val {nms : SS → List Str} {word : Str} {a : V} (A : HandAt K C H hd dx h) (hS : ShopAt K CS H h.sh S) (hm : name ∈ nms S) (va : Vn K H 3 a true) (a1 : h.asked ≤ h.ans.length) (a2 : h.ans.length ≤ 1000) (hf : h.halted = false)
    (kQ : ∀ v G, h.ans[h.asked]? = some v → HandAt K C G hd dx { h with asked := h.asked + 1 } → (∀ b o, b ≠ hd → b ≠ h.md → H b = some o → G b = some o) → Q v G)
    (kE : ∀ t G, h.asked = h.ans.length → HandAt K C G hd dx { h with pend := .ref t, halted := true } → SqT K G t [.str word, .str name, a] → (∀ b o, b ≠ hd → H b = some o → G b = some o) → E (.ref CH) none G) :
    spWish K C CS CH CN CV 3 1 nms word [.ref hd, .str name, a] H Q E :=
  ⟨hd, dx, h, S, .str name, true, [a], [true], rfl, rfl, A, hS, a1, a2, .inl ⟨_, rfl, (decide_eq_true hm).symm⟩, rfl, (fun i r c e1 e2 => match i, e1, e2 with
    | 0, e1, e2 => by
      obtain rfl := Option.some.inj e1
      cases e2
      exact va), fun H4 s4 => ⟨fun z => absurd (hf.symm.trans z) (by decide), fun _ z => (nomatch z), (fun _ _ i r e1 e2 => match i, e2 with
    | 0, e2 => by cases e2), fun _ _ _ => ⟨fun v hv => kQ v _ hv ((A.same s4).set ⟨rfl, rfl, rfl, rfl, rfl, rfl⟩) fun b o n1 n2 e => (upd_ne n1).trans (s4 _ _ e), fun t ht e => kE t _ e ((A.same s4).set ⟨rfl, rfl, rfl, rfl, rfl, rfl⟩) (seqT_ins (A.same s4).ob (SqT.of ht)) fun b o n1 e => (upd_ne n1).trans (s4 _ _ e)⟩⟩⟩
theorem ask_take (A : HandAt K C H hd dx h) (hS : ShopAt K CS H h.sh S) (hm : name ∈ S.locks) (a1 : h.asked ≤ h.ans.length) (a2 : h.ans.length ≤ 1000) (a3 : h.mine.length ≤ 1000) (hf : h.halted = false)
    (kQ : ∀ v G, h.ans[h.asked]? = some v → HandAt K C G hd dx { h with asked := h.asked + 1, mine := putK h.mine (Sum.inr name) (.bl true) } → (∀ b o, b ≠ hd → b ≠ h.md → H b = some o → G b = some o) → Q v G)
    (kE : ∀ t G, h.asked = h.ans.length → HandAt K C G hd dx { h with pend := .ref t, halted := true } → SqT K G t [.str "take", .str name] → (∀ b o, b ≠ hd → H b = some o → G b = some o) → E (.ref CH) none G) :
    spLock K C CS CH CN "take" (fun _ => some true) [.ref hd, .str name] H Q E :=
  ⟨hd, dx, h, S, .str name, true, rfl, A, hS, a1, a2, .inl ⟨_, rfl, (decide_eq_true hm).symm⟩, Nat.lt_of_lt_of_le (Nat.lt_succ_of_le a3) (small_sz (n := 1001) (by decide)), fun H4 s4 => ⟨fun z => absurd (hf.symm.trans z) (by decide), fun _ z => (nomatch z), fun _ _ => ⟨name, rfl, fun v hv => ⟨true, rfl, fun _ => kQ v _ hv ((A.same s4).set (h' := { h with asked := h.asked + 1 }) ⟨rfl, rfl, rfl, rfl, rfl, rfl⟩).mine fun b o n1 n2 e => (upd_ne n2).trans ((upd_ne n1).trans (s4 _ _ e)), fun z => (nomatch z)⟩,
    fun t ht e => kE t _ e ((A.same s4).set ⟨rfl, rfl, rfl, rfl, rfl, rfl⟩) (seqT_ins (A.same s4).ob (SqT.of ht)) fun b o n1 e => (upd_ne n1).trans (s4 _ _ e)⟩⟩⟩
theorem ask_give (A : HandAt K C H hd dx h) (hS : ShopAt K CS H h.sh S) (hm : name ∈ S.locks) (a1 : h.asked ≤ h.ans.length) (a2 : h.ans.length ≤ 1000) (a3 : h.mine.length ≤ 1000) (hf : h.halted = false) (mine : heldM h.mine name)
    (kQ : ∀ v G, h.ans[h.asked]? = some v → HandAt K C G hd dx { h with asked := h.asked + 1, mine := putK h.mine (Sum.inr name) (.bl false) } → (∀ b o, b ≠ hd → b ≠ h.md → H b = some o → G b = some o) → Q v G)
    (kE : ∀ t G, h.asked = h.ans.length → HandAt K C G hd dx { h with pend := .ref t, halted := true } → SqT K G t [.str "give", .str name] → (∀ b o, b ≠ hd → H b = some o → G b = some o) → E (.ref CH) none G) :
    spGive K C CS CH CN CL [.ref hd, .str name] H Q E :=
  ⟨hd, dx, h, S, .str name, true, rfl, A, hS, a1, a2, .inl ⟨_, rfl, (decide_eq_true hm).symm⟩, Nat.lt_of_lt_of_le (Nat.lt_succ_of_le a3) (small_sz (n := 1001) (by decide)), fun H4 s4 => ⟨fun z => absurd (hf.symm.trans z) (by decide), fun _ z => (nomatch z), fun _ _ => ⟨name, true, rfl, mine, fun z => (nomatch z), fun _ => ⟨fun v hv => kQ v _ hv ((A.same s4).set (h' := { h with asked := h.asked + 1 }) ⟨rfl, rfl, rfl, rfl, rfl, rfl⟩).mine fun b o n1 n2 e => (upd_ne n2).trans ((upd_ne n1).trans (s4 _ _ e)),
    fun t ht e => kE t _ e ((A.same s4).set ⟨rfl, rfl, rfl, rfl, rfl, rfl⟩) (seqT_ins (A.same s4).ob (SqT.of ht)) fun b o n1 e => (upd_ne n1).trans (s4 _ _ e)⟩⟩⟩⟩
theorem ask_rest (A : HandAt K C H hd dx h) (a1 : h.asked ≤ h.ans.length) (a2 : h.ans.length ≤ 1000) (hf : h.halted = false)
    (kQ : ∀ v G, h.ans[h.asked]? = some v → HandAt K C G hd dx { h with asked := h.asked + 1 } → (∀ b o, b ≠ hd → b ≠ h.md → H b = some o → G b = some o) → Q v G)
    (kE : ∀ t G, h.asked = h.ans.length → HandAt K C G hd dx { h with pend := .ref t, halted := true } → SqT K G t [.str "rest"] → (∀ b o, b ≠ hd → H b = some o → G b = some o) → E (.ref CH) none G) :
    spRest K C CH [.ref hd] H Q E :=
  ⟨hd, dx, h, rfl, A, a1, a2, fun z => absurd (hf.symm.trans z) (by decide), fun H4 s4 => ⟨fun _ v hv => kQ v _ hv ((A.same s4).set ⟨rfl, rfl, rfl, rfl, rfl, rfl⟩) fun b o n1 n2 e => (upd_ne n1).trans (s4 _ _ e), fun t ht _ e => kE t _ e ((A.same s4).set ⟨rfl, rfl, rfl, rfl, rfl, rfl⟩) (seqT_ins (A.same s4).ob (SqT.of ht)) fun b o n1 e => (upd_ne n1).trans (s4 _ _ e)⟩⟩
theorem ask_say {y : V} (A : HandAt K C H hd dx h) (lw : h.words.length ≤ 1000) (va : Vn K H 3 y true) (hf : h.halted = false) (kQ : ∀ G, HandAt K C G hd dx { h with words := h.words ++ [y] } → (∀ b o, b ≠ h.wl → H b = some o → G b = some o) → Q .non G) : spSay K C CH CV 3 [.ref hd, y] H Q E :=
  ⟨hd, dx, h, y, true, rfl, A, lw, va, fun z => absurd (hf.symm.trans z) (by decide), fun H4 s4 => ⟨fun _ z => (nomatch z), fun _ _ => by
    have A4 := A.same s4
    have wl4 := A4.w
    exact kQ _ ⟨(upd_ne (ne_of A4.ob wl4 (by intro z; cases z))).trans A4.ob, tk_lst wl4 _ _ A4.a, (upd_ne (ne_of A4.m wl4 (by intro z; cases z))).trans A4.m, upd_same⟩ fun b o n e => (upd_ne n).trans (s4 _ _ e)⟩⟩
end
/-- a hand under way -/
abbrev hsK (me : Int) (sh an : Addr) (ans : List V) (md wl : Addr) (k : Nat) (m : List (Key × V)) (ws : List V) : HS := { me := me, sh := sh, an := an, ans := ans, asked := k, md := md, mine := m, wl := wl, words := ws, pend := .non, fin := .non, halted := false }
end TW
namespace TW
open PySem PySem.Spec PyProof.Rows L2
abbrev sCount : Stmt := top 68
abbrev sHanding : Stmt := top 69
abbrev sGetting : Stmt := top 70
def plus1 : V → V
  | .int i => .int (i + 1)
  | v => v
/-- a work that counts: its answers, how often it has still to count, how often it has tried -/
def cntS : List V → Nat → Nat → Stop
  | [], l, t => if l = 0 then .told (.int (t : Nat)) else .wish "look" "n" []
  | [h], l, t => if l = 0 then .told (.int (t : Nat)) else .wish "trade" "n" [h, plus1 h]
  | h :: d :: rest, l, t => if l = 0 then .told (.int (t : Nat)) else cntS rest (if d = .bl true then l - 1 else l) (t + 1)
def cntF (times : Nat) : StF := fun ans => (cntS ans times 0, [])
theorem cntS_zero : ∀ (ans : List V) (t : Nat), cntS ans 0 t = .told (.int (t : Nat))
  | [], _ => rfl
  | [_], _ => rfl
  | _ :: _ :: _, _ => rfl
theorem cntS_nil {l t : Nat} (h : l ≠ 0) : cntS [] l t = .wish "look" "n" [] := if_neg h
theorem cntS_one {l t : Nat} {a : V} (h : l ≠ 0) : cntS [a] l t = .wish "trade" "n" [a, plus1 a] := if_neg h
theorem cntS_two {l t : Nat} {a d : V} {rest : List V} (h : l ≠ 0) : cntS (a :: d :: rest) l t = cntS rest (if d = .bl true then l - 1 else l) (t + 1) := if_neg h
/-- answers of a work that counts -/
def AdC (ans : List V) : Prop := ans.length ≤ 900 ∧ ∀ (i : Nat) (v : V), ans[i]? = some v → (i % 2 = 0 → ∃ z : Int, v = .int z) ∧ (i % 2 = 1 → ∃ b, v = .bl b)
def spCount (K : PySem.W.Frag) (C CS CH : Addr) : Sp := fun vs H Q E => ∃ (times : Nat) (hd dx md wl sh an : Addr) (me : Int) (ans : List V) (S : SS) (H0 : Hp), vs = [.int (times : Nat), .ref hd] ∧ times ≤ 100 ∧ HandAt K C H hd dx (hs0 me sh an ans md wl) ∧ ShopAt K CS H0 sh S ∧ Base3 H0 hd md wl H ∧ ("n" : Str) ∈ S.cellN ∧ AdC ans ∧
  (∀ H2 h2, HandAt K C H2 hd dx h2 → Keep3 hd md wl H H2 → h2.halted = true → BStop K (cntF times) H2 ans h2.pend h2.fin h2.words → E (.ref CH) none H2) ∧
  (∀ H2 h2 v, HandAt K C H2 hd dx h2 → Keep3 hd md wl H H2 → h2.halted = false → h2.pend = .non → Vn K H2 3 v true → cntF times ans = (.told v, h2.words) → Q v H2)
/-- a work that hands values on -/
def layF (vals : List V) : StF := fun ans => (if ans.length ≤ vals.length then .wish "lay" "b" [(vals[ans.length]?).getD .non] else .told (.int (vals.length : Nat)), [])
def spHanding (K : PySem.W.Frag) (C CS CH : Addr) : Sp := fun vs H Q E => ∃ (vl hd dx md wl sh an : Addr) (vals : List V) (me : Int) (ans : List V) (S : SS) (H0 : Hp), vs = [.ref vl, .ref hd] ∧ SqL K H0 vl vals ∧ vals.length ≤ 800 ∧ (∀ v ∈ vals, PV K H0 v) ∧ HandAt K C H hd dx (hs0 me sh an ans md wl) ∧ ShopAt K CS H0 sh S ∧ Base3 H0 hd md wl H ∧ ("b" : Str) ∈ S.beltN ∧ ans.length ≤ 900 ∧
  (∀ H2 h2, HandAt K C H2 hd dx h2 → Keep3 hd md wl H H2 → h2.halted = true → BStop K (layF vals) H2 ans h2.pend h2.fin h2.words → E (.ref CH) none H2) ∧
  (∀ H2 h2 v, HandAt K C H2 hd dx h2 → Keep3 hd md wl H H2 → h2.halted = false → h2.pend = .non → Vn K H2 3 v true → layF vals ans = (.told v, h2.words) → Q v H2)
/-- a work that gets values, until None -/
def getS : List V → List V → Stop × List V
  | [], said => (.wish "fetch" "b" [], said)
  | [v], said => if v = .non then (.told (.str "all"), said) else (.wish "take" "l" [], said)
  | [v, _], said => if v = .non then (.told (.str "all"), said) else (.wish "give" "l" [], said ++ [v])
  | v :: _ :: _ :: rest, said => if v = .non then (.told (.str "all"), said) else getS rest (said ++ [v])
def getF : StF := fun ans => getS ans []
theorem getS_non : ∀ (rest said : List V), getS (.non :: rest) said = (.told (.str "all"), said)
  | [], _ => rfl
  | [_], _ => rfl
  | _ :: _ :: _, _ => rfl
theorem getS_one {v : V} {said : List V} (h : v ≠ .non) : getS [v] said = (.wish "take" "l" [], said) := if_neg h
theorem getS_two {v x : V} {said : List V} (h : v ≠ .non) : getS [v, x] said = (.wish "give" "l" [], said ++ [v]) := if_neg h
theorem getS_three {v x y : V} {rest said : List V} (h : v ≠ .non) : getS (v :: x :: y :: rest) said = getS rest (said ++ [v]) := if_neg h
def spGetting (K : PySem.W.Frag) (C CS CH : Addr) : Sp := fun vs H Q E => ∃ (hd dx md wl sh an : Addr) (me : Int) (ans : List V) (S : SS) (H0 : Hp), vs = [.ref hd] ∧ HandAt K C H hd dx (hs0 me sh an ans md wl) ∧ ShopAt K CS H0 sh S ∧ Base3 H0 hd md wl H ∧ ("b" : Str) ∈ S.beltN ∧ ("l" : Str) ∈ S.locks ∧ ans.length ≤ 900 ∧ (∀ a ∈ ans, PV K H0 a) ∧
  (∀ H2 h2, HandAt K C H2 hd dx h2 → Keep3 hd md wl H H2 → h2.halted = true → BStop K getF H2 ans h2.pend h2.fin h2.words → E (.ref CH) none H2) ∧
  (∀ H2 h2 v, HandAt K C H2 hd dx h2 → Keep3 hd md wl H H2 → h2.halted = false → h2.pend = .non → Vn K H2 3 v true → getF ans = (.told v, h2.words) → Q v H2)
theorem hF_none (h : HS) (m : Str) (z1 : ¬ m = "me") (z2 : ¬ m = "shop") (z3 : ¬ m = "answers") (z4 : ¬ m = "asked") (z5 : ¬ m = "mine") (z6 : ¬ m = "words") (z7 : ¬ m = "pending") (z8 : ¬ m = "end") (z9 : ¬ m = "halted") : h.fs.lookup m = none := hF_no z1 z2 z3 z4 z5 z6 z7 z8 z9
theorem nol (h : HS) : h.fs.lookup ("look" : Str) = none := hF_none h _ (by decide +kernel) (by decide +kernel) (by decide +kernel) (by decide +kernel) (by decide +kernel) (by decide +kernel) (by decide +kernel) (by decide +kernel) (by decide +kernel)
theorem not_ (h : HS) : h.fs.lookup ("trade" : Str) = none := hF_none h _ (by decide +kernel) (by decide +kernel) (by decide +kernel) (by decide +kernel) (by decide +kernel) (by decide +kernel) (by decide +kernel) (by decide +kernel) (by decide +kernel)
theorem noly (h : HS) : h.fs.lookup ("lay" : Str) = none := hF_none h _ (by decide +kernel) (by decide +kernel) (by decide +kernel) (by decide +kernel) (by decide +kernel) (by decide +kernel) (by decide +kernel) (by decide +kernel) (by decide +kernel)
theorem nof (h : HS) : h.fs.lookup ("fetch" : Str) = none := hF_none h _ (by decide +kernel) (by decide +kernel) (by decide +kernel) (by decide +kernel) (by decide +kernel) (by decide +kernel) (by decide +kernel) (by decide +kernel) (by decide +kernel)
theorem notk (h : HS) : h.fs.lookup ("take" : Str) = none := hF_none h _ (by decide +kernel) (by decide +kernel) (by decide +kernel) (by decide +kernel) (by decide +kernel) (by decide +kernel) (by decide +kernel) (by decide +kernel) (by decide +kernel)
theorem nog (h : HS) : h.fs.lookup ("give" : Str) = none := hF_none h _ (by decide +kernel) (by decide +kernel) (by decide +kernel) (by decide +kernel) (by decide +kernel) (by decide +kernel) (by decide +kernel) (by decide +kernel) (by decide +kernel)
theorem nos (h : HS) : h.fs.lookup ("say" : Str) = none := hF_none h _ (by decide +kernel) (by decide +kernel) (by decide +kernel) (by decide +kernel) (by decide +kernel) (by decide +kernel) (by decide +kernel) (by decide +kernel) (by decide +kernel)
theorem keep_m {hd md wl : Addr} {H G G' : Hp} (a : Keep3 hd md wl H G) (f : ∀ b o, b ≠ hd → b ≠ md → G b = some o → G' b = some o) : Keep3 hd md wl H G' := fun b o e1 e2 e3 e => f b o e1 e2 (a b o e1 e2 e3 e)
theorem keep_h {hd md wl : Addr} {H G G' : Hp} (a : Keep3 hd md wl H G) (f : ∀ b o, b ≠ hd → G b = some o → G' b = some o) : Keep3 hd md wl H G' := fun b o e1 e2 e3 e => f b o e1 (a b o e1 e2 e3 e)
theorem keep_w {hd md wl : Addr} {H G G' : Hp} (a : Keep3 hd md wl H G) (f : ∀ b o, b ≠ wl → G b = some o → G' b = some o) : Keep3 hd md wl H G' := fun b o e1 e2 e3 e => f b o e3 (a b o e1 e2 e3 e)
theorem drop_at {α : Type} {l : List α} {a : Nat} {v : α} (h : l[a]? = some v) : l.drop a = v :: l.drop (a + 1) := by
  have z := (List.getElem?_eq_some_iff.mp h)
  rw [List.drop_eq_getElem_cons z.1, z.2]
section
variable {P : Program} {w : World} {K : PySem.W.Frag} {mg : Str → Option Value} {base : Heap} {C CS CH CN CV CL : Addr}
abbrev NCount : List Str := ["_law_times", "_law_hand", "_law_tries", "_law_k", "_law_done", "_law_here"]
theorem scCount : FnScope NCount ["_law_times", "_law_hand"] (defScope sCount) := ⟨rfl, rfl, rfl, by decide +kernel, rfl, by decide +kernel, by decide +kernel⟩
theorem ok_count {f : Addr} {fd : FuncData} (F : Fun K "_law_counting" "_law_counting" sCount f fd) (B : Blt mg) (T : HTxt K C) (M : AskMs P w K mg base C CS CH CN CV CL) : FnOk P w K mg base (L2.CX P w) 9 f fd ["_law_times", "_law_hand"] (spCount K C CS CH) := by
  refine F.okX scCount (fun vs H Q E h => ?_) (fun cdv A outer s H vs Q E hr h => ?_)
  · obtain ⟨times, hd, dx, md, wl, sh, an, me, ans, S, H0, rfl, _⟩ := h
    rfl
  · obtain ⟨times, hd, dx, md, wl, sh, an, me, ans, S, H0, rfl, t100, hA, hS, hB3, hn, ⟨few, all⟩, kE, kQ⟩ := h
    obtain ⟨f1, d1, G1, h1, b1⟩ := M.look
    obtain ⟨f2, d2, G2, h2, b2⟩ := M.trade
    have px : Passes (L2.CX P w) (cxOf (L2.CX P w) P w K mg base NCount "_law_counting" (defScope sCount) f cdv A outer s H E) E := fun pins σ H s e s' I c => passAt (takes_of (E := E) rfl rfl rfl rfl) σ pins H s e s' I c
    refine ⟨_, pss_cons (ps_set (i := 2) scCount.nd rfl (.inl rfl) pe_int)
      (pss_cons (ps_for (passes_of rfl) rfl (pi_range1 (by rfl) B.range (pa_cons (pv 0) pa_nil)) (pg_name (i := 3) scCount.nd rfl (Or.inl rfl))
        (pss_cons (ps_set (i := 4) scCount.nd rfl (.inl rfl) pe_bl)
        (pss_one (ps_while (passes_of rfl) (pt_not (pt_val (pv 4)))
          (pss_cons (ps_set (i := 5) scCount.nd rfl (.inl rfl) (pe_meth (pv 1) T.cl h1 G1 hr b1 .nil px (pa_cons pe_str pa_nil)))
          (pss_cons (ps_set (i := 4) scCount.nd rfl (.inl rfl) (pe_meth (pv 1) T.cl h2 G2 hr b2 .nil px (pa_cons pe_str (pa_cons (pv 5) (pa_cons (pe_op op_add (pv 5) pe_int) pa_nil)))))
          (pss_one (ps_set (i := 2) scCount.nd rfl (.inl rfl) (pe_op op_add (pv 2) pe_int)))))))))
      (pss_one (ps_ret (pv 2)))), ?_⟩
    have l6 : ans.length ≤ 1000 := by omega
    have halt : ∀ (a : Nat) (G : Hp) (t : Addr) (kind nm : Str) (args : List V), HandAt K C G hd dx { hsK me sh an ans md wl a [] [] with pend := .ref t, halted := true } → cntS ans times 0 = .wish kind nm args → SqT K G t (wishV kind nm args) → Keep3 hd md wl H G → E (.ref CH) none G := fun a G t kind nm args AG est ht kp => by
      refine kE G _ AG kp rfl ?_
      unfold BStop cntF
      rw [est]
      exact ⟨rfl, rfl, t, rfl, ht⟩
    refine ⟨_, rfl, (times : Nat), rfl, by omega, by omega, ?_⟩
    refine for_range (lo := 0) (n := times) (fun i σ H' => ∃ (q3 q4 q5 : Option V) (a t : Nat), σ = [some (.int (times : Nat)), some (.ref hd), some (.int (t : Nat)), q3, q4, q5] ∧ HandAt K C H' hd dx (hsK me sh an ans md wl a [] []) ∧ Keep3 hd md wl H H' ∧ a ≤ ans.length ∧ a % 2 = 0 ∧ cntS ans times 0 = cntS (ans.drop a) (times - i) t)
      ⟨_, _, _, 0, 0, rfl, hA, fun b o _ _ _ e => e, Nat.zero_le _, rfl, rfl⟩ ?_ ?_
    · rintro i σ H1 hi ⟨q3, q4, q5, a, t, rfl, A1, K1, la, ea, est⟩
      refine ⟨fun u σ H' => ∃ (q5 : Option V) (a t : Nat) (dn : Bool), u = ans.length - a + 1 ∧ σ = [some (.int (times : Nat)), some (.ref hd), some (.int (t : Nat)), some (.int (0 + (i : Nat))), some (.bl dn), q5] ∧ HandAt K C H' hd dx (hsK me sh an ans md wl a [] []) ∧ Keep3 hd md wl H H' ∧ a ≤ ans.length ∧ a % 2 = 0 ∧ cntS ans times 0 = cntS (ans.drop a) (if dn = true then times - (i + 1) else times - i) t,
        ⟨_, q5, a, t, false, rfl, rfl, A1, K1, la, ea, est⟩, ?_⟩
      clear A1 K1 la ea est q3 q4 q5 a t
      rintro u σ H2 ⟨q5, a, t, dn, rfl, rfl, A2, K2, la, ea, est⟩
      cases dn with
      | true =>
        refine ⟨_, rfl, true, rfl, iteF ?_⟩
        exact ⟨_, _, _, a, t, rfl, A2, K2, la, ea, est⟩
      | false =>
        have est : cntS ans times 0 = cntS (ans.drop a) (times - i) t := est
        have l0 : times - i ≠ 0 := by omega
        refine ⟨_, rfl, false, rfl, iteT ⟨_, fun σ' H' z => z, ?_⟩⟩
        -- look
        refine ⟨_, rfl, hd, dx, _, rfl, A2.ob, nol _, ?_⟩
        try dsimp only [tCons, tC, tNil]
        refine ask_wish (args := []) (word := "look") (name := "n") (nms := SS.cellN) A2 (hS.same (hB3.same K2)) hn (fun a h => (nomatch h)) la l6 rfl (fun v G3 hv A3 f3 => ?_) (fun tt G3 e AG ht f => ?_)
        rotate_left
        · refine halt a G3 tt "look" "n" [] AG ?_ ht (keep_h K2 f)
          have e : a = ans.length := e
          rw [est, e, List.drop_length, cntS_nil l0]
        have hv : ans[a]? = some v := hv
        obtain ⟨z, rfl⟩ := (all a v hv).1 ea
        have a1 := (List.getElem?_eq_some_iff.mp hv).1
        replace A3 : HandAt K C G3 hd dx (hsK me sh an ans md wl (a + 1) [] []) := A3
        have K3 := keep_m K2 f3
        -- trade
        refine ⟨_, rfl, hd, dx, _, rfl, A3.ob, not_ _, ?_⟩
        refine ⟨_, rfl, _, rfl, _, _, rfl, rfl, ?_⟩
        refine ask_wish (args := [.int z, .int (z + 1)]) (word := "trade") (name := "n") (nms := SS.cellN) A3 (hS.same (hB3.same K3)) hn (fun x h => ?_) a1 l6 rfl (fun d G4 hv4 A4 f4 => ?_) (fun tt G4 e AG ht f => ?_)
        · rcases List.mem_cons.mp h with rfl | h
          · exact .int _ _
          · rw [List.mem_singleton.mp h]
            exact .int _ _
        rotate_left
        · refine halt (a + 1) G4 tt "trade" "n" [.int z, .int (z + 1)] AG ?_ ht (keep_h K3 f)
          have e : a + 1 = ans.length := e
          rw [est, drop_at hv, e, List.drop_length, cntS_one l0]
          rfl
        have hv4 : ans[a + 1]? = some d := hv4
        obtain ⟨b, rfl⟩ := (all (a + 1) d hv4).2 (by omega)
        have a2 := (List.getElem?_eq_some_iff.mp hv4).1
        replace A4 : HandAt K C G4 hd dx (hsK me sh an ans md wl (a + 1 + 1) [] []) := A4
        have K4 := keep_m K3 f4
        -- one try more
        refine ⟨_, rfl, _, _, rfl, rfl, ?_⟩
        refine ⟨ans.length - (a + 1 + 1) + 1, by omega, _, a + 1 + 1, t + 1, b, rfl, rfl, A4, K4, a2, by omega, ?_⟩
        rw [est, drop_at hv, drop_at hv4, cntS_two l0]
        cases b with
        | true => rw [if_pos rfl]; rfl
        | false => rw [if_neg (fun z => by injection z with z; cases z)]; rfl
    · rintro σ H2 ⟨q3, q4, q5, a, t, rfl, A2, K2, la, ea, est⟩
      refine ⟨_, rfl, ?_⟩
      refine kQ H2 _ _ A2 K2 rfl rfl (.int _ _) ?_
      unfold cntF
      rw [est, Nat.sub_self, cntS_zero]
end
end TW
namespace TW
open PySem PySem.Spec PyProof.Rows L2
section
variable {P : Program} {w : World} {K : PySem.W.Frag} {mg : Str → Option Value} {base : Heap} {C CS CH CN CV CL : Addr}
abbrev NHanding : List Str := ["_law_values", "_law_hand", "_law_value"]
theorem scHanding : FnScope NHanding ["_law_values", "_law_hand"] (defScope sHanding) := ⟨rfl, rfl, rfl, by decide +kernel, rfl, by decide +kernel, by decide +kernel⟩
theorem ok_handing {f : Addr} {fd : FuncData} (F : Fun K "_law_handing" "_law_handing" sHanding f fd) (B : Blt mg) (T : HTxt K C) (M : AskMs P w K mg base C CS CH CN CV CL) : FnOk P w K mg base (L2.CX P w) 9 f fd ["_law_values", "_law_hand"] (spHanding K C CS CH) := by
  refine F.okX scHanding (fun vs H Q E h => ?_) (fun cdv A outer s H vs Q E hr h => ?_)
  · obtain ⟨vl, hd, dx, md, wl, sh, an, vals, me, ans, S, H0, rfl, _⟩ := h
    rfl
  · obtain ⟨vl, hd, dx, md, wl, sh, an, vals, me, ans, S, H0, rfl, hvl, lv, pvs, hA, hS, hB3, hb, few, kE, kQ⟩ := h
    obtain ⟨f8, d8, G8, h8, b8⟩ := M.lay
    have px : Passes (L2.CX P w) (cxOf (L2.CX P w) P w K mg base NHanding "_law_handing" (defScope sHanding) f cdv A outer s H E) E := fun pins σ H s e s' I c => passAt (takes_of (E := E) rfl rfl rfl rfl) σ pins H s e s' I c
    refine ⟨_, pss_cons (ps_for (passes_of rfl) rfl (pi_list (pv 0)) (pg_name (i := 2) scHanding.nd rfl (Or.inl rfl))
        (pss_one (ps_expr (pe_meth (pv 1) T.cl h8 G8 hr b8 .nil px (pa_cons pe_str (pa_cons (pv 2) pa_nil))))))
      (pss_cons (ps_expr (pe_meth (pv 1) T.cl h8 G8 hr b8 .nil px (pa_cons pe_str (pa_cons pe_non pa_nil))))
      (pss_one (ps_ret (pe_callB call_len_seq (by rfl) B.len PySem.boot_len (pa_cons (pv 0) pa_nil))))), ?_⟩
    have l6 : ans.length ≤ 1000 := by omega
    have hvlH : ∀ {G : Hp}, Keep3 hd md wl H G → SqL K G vl vals := fun kp => by
      have s := hB3.same kp
      rcases hvl with (h | ⟨o, h⟩) | h
      · exact .inl (.inl (s _ _ h))
      · exact .inl (.inr ⟨o, s _ _ h⟩)
      · exact .inr h
    have vn : ∀ {G : Hp}, Keep3 hd md wl H G → ∀ v ∈ vals, Vn K G 3 v true := fun kp v m => ((pvs v m).tk (TK.of (hB3.same kp))).vn
    have halt : ∀ (a : Nat) (G : Hp) (t : Addr) (x : V), HandAt K C G hd dx { hsK me sh an ans md wl a [] [] with pend := .ref t, halted := true } → a = ans.length → a ≤ vals.length → (vals[a]?).getD .non = x → SqT K G t [.str "lay", .str "b", x] → Keep3 hd md wl H G → E (.ref CH) none G := fun a G t x AG ea lt ex ht kp => by
      refine kE G _ AG kp rfl ?_
      have est : layF vals ans = (.wish "lay" "b" [x], []) := by
        unfold layF
        rw [← ea, if_pos lt, ex]
      unfold BStop
      rw [est]
      exact ⟨rfl, rfl, t, rfl, ht⟩
    refine ⟨_, rfl, vl, rfl, ⟨_, hvlH (fun b o _ _ _ e => e)⟩, ?_⟩
    refine for_list (K := K) (a := vl) (xs := vals) (fun i σ H' => ∃ q2 : Option V, σ = [some (.ref vl), some (.ref hd), q2] ∧ HandAt K C H' hd dx (hsK me sh an ans md wl i [] []) ∧ Keep3 hd md wl H H' ∧ i ≤ ans.length)
      ⟨_, rfl, hA, fun b o _ _ _ e => e, Nat.zero_le _⟩ (fun i σ H' _ ⟨_, _, _, kp, _⟩ => hvlH kp) ?_ ?_
    · rintro i x σ H1 hx ⟨q2, rfl, A1, K1, la⟩
      have hi := (List.getElem?_eq_some_iff.mp hx).1
      refine ⟨_, rfl, hd, dx, _, rfl, A1.ob, noly _, ?_⟩
      refine ⟨_, rfl, ?_⟩
      refine ask_wish (args := [x]) (word := "lay") (name := "b") (nms := SS.beltN) A1 (hS.same (hB3.same K1)) hb (fun y h => ?_) la l6 rfl (fun v G2 hv A2 f2 => ?_) (fun tt G2 e AG ht f => ?_)
      · rw [List.mem_singleton.mp h]
        exact vn K1 x (List.mem_of_getElem? hx)
      rotate_left
      · exact halt i G2 tt x AG e (Nat.le_of_lt hi) (by rw [hx]; rfl) ht (keep_h K1 f)
      have hv : ans[i]? = some v := hv
      exact ⟨_, rfl, A2, keep_m K1 f2, (List.getElem?_eq_some_iff.mp hv).1⟩
    · rintro σ H1 ⟨q2, rfl, A1, K1, la⟩
      refine ⟨_, rfl, hd, dx, _, rfl, A1.ob, noly _, ?_⟩
      try dsimp only [tCons, tC, tNil]
      refine ask_wish (args := [.non]) (word := "lay") (name := "b") (nms := SS.beltN) A1 (hS.same (hB3.same K1)) hb (fun y h => ?_) la l6 rfl (fun v G2 hv A2 f2 => ?_) (fun tt G2 e AG ht f => ?_)
      · rw [List.mem_singleton.mp h]
        exact .non _
      rotate_left
      · exact halt vals.length G2 tt .non AG e (Nat.le_refl _) (by rw [List.getElem?_eq_none (Nat.le_refl _)]; rfl) ht (keep_h K1 f)
      have hv : ans[vals.length]? = some v := hv
      have K2 := keep_m K1 f2
      refine ⟨_, rfl, vl, _, rfl, .inl (hvlH K2), ?_⟩
      have z := (List.getElem?_eq_some_iff.mp (show ans[vals.length]? = some v from hv)).1
      exact kQ G2 _ _ A2 K2 rfl rfl (.int _ _) (by unfold layF; rw [if_neg (by omega)])
abbrev NGetting : List Str := ["_law_hand", "_law_value"]
theorem scGetting : FnScope NGetting ["_law_hand"] (defScope sGetting) := ⟨rfl, rfl, rfl, by decide +kernel, rfl, by decide +kernel, by decide +kernel⟩
abbrev lT : List (Key × V) := [(Sum.inr "l", .bl true)]
abbrev lF : List (Key × V) := [(Sum.inr "l", .bl false)]
theorem put_one {k : Key} {v x : V} : putK [(k, x)] k v = [(k, v)] := by
  unfold putK
  rw [if_pos (List.any_eq_true.mpr ⟨(k, x), List.mem_cons_self .., decide_eq_true rfl⟩)]
  show [if k = k then (k, v) else (k, x)] = _
  rw [if_pos rfl]
theorem mine_t {m : List (Key × V)} (h : m = [] ∨ m = lF) : putK m (Sum.inr "l") (V.bl true) = lT := by
  rcases h with rfl | rfl
  · rfl
  · exact put_one
theorem mine_f : putK lT (Sum.inr "l") (V.bl false) = lF := by
  exact put_one
theorem ok_getting {f fY : Addr} {fd fdY : FuncData} (F : Fun K "_law_getting" "_law_getting" sGetting f fd) (B : Blt mg) (T : HTxt K C) (M : AskMs P w K mg base C CS CH CN CV CL)
    (GY : FnOk P w K mg base (L2.CX P w) 7 fY fdY ["self", "value"] (spSay K C CH CV 3)) (hY : Meth K C "say" fY) (bY : Binds K fdY ["self", "value"] []) : FnOk P w K mg base (L2.CX P w) 9 f fd ["_law_hand"] (spGetting K C CS CH) := by
  refine F.okX scGetting (fun vs H Q E h => ?_) (fun cdv A outer s H vs Q E hr h => ?_)
  · obtain ⟨hd, dx, md, wl, sh, an, me, ans, S, H0, rfl, _⟩ := h
    rfl
  · obtain ⟨hd, dx, md, wl, sh, an, me, ans, S, H0, rfl, hA, hS, hB3, hb, hl, few, all, kE, kQ⟩ := h
    obtain ⟨f1, d1, G1, h1, b1⟩ := M.fetch
    obtain ⟨f2, d2, G2, h2, b2⟩ := M.take
    obtain ⟨f3, d3, G3, h3, b3⟩ := M.give
    have hr7 : Room 7 _ := hr.mono (by omega)
    have px : Passes (L2.CX P w) (cxOf (L2.CX P w) P w K mg base NGetting "_law_getting" (defScope sGetting) f cdv A outer s H E) E := fun pins σ H s e s' I c => passAt (takes_of (E := E) rfl rfl rfl rfl) σ pins H s e s' I c
    refine ⟨_, pss_cons (ps_set (i := 1) scGetting.nd rfl (.inl rfl) (pe_meth (pv 0) T.cl h1 G1 hr b1 .nil px (pa_cons pe_str pa_nil)))
      (pss_cons (ps_while (passes_of rfl) (pt_cmpR op_notN (pv 1) pe_non (nomark _))
        (pss_cons (ps_expr (pe_meth (pv 0) T.cl h2 G2 hr b2 .nil px (pa_cons pe_str pa_nil)))
        (pss_cons (ps_expr (pe_meth (pv 0) T.cl hY GY hr7 bY .nil px (pa_cons (pv 1) pa_nil)))
        (pss_cons (ps_expr (pe_meth (pv 0) T.cl h3 G3 hr b3 .nil px (pa_cons pe_str pa_nil)))
        (pss_one (ps_set (i := 1) scGetting.nd rfl (.inl rfl) (pe_meth (pv 0) T.cl h1 G1 hr b1 .nil px (pa_cons pe_str pa_nil))))))))
      (pss_one (ps_ret pe_str))), ?_⟩
    have l6 : ans.length ≤ 1000 := by omega
    have vn : ∀ {G : Hp} {v : V}, Keep3 hd md wl H G → v ∈ ans → Vn K G 3 v true := fun kp m => ((all _ m).tk (TK.of (hB3.same kp))).vn
    have halt : ∀ (a : Nat) (m : List (Key × V)) (said : List V) (G : Hp) (t : Addr) (kind nm : Str), HandAt K C G hd dx { hsK me sh an ans md wl a m said with pend := .ref t, halted := true } → getS ans [] = (.wish kind nm [], said) → SqT K G t (wishV kind nm []) → Keep3 hd md wl H G → E (.ref CH) none G := fun a m said G t kind nm AG est ht kp => by
      refine kE G _ AG kp rfl ?_
      unfold BStop getF
      rw [est]
      exact ⟨rfl, rfl, t, rfl, ht⟩
    have K0 : Keep3 hd md wl H H := fun b o _ _ _ e => e
    -- fetch
    refine ⟨_, rfl, hd, dx, _, rfl, hA.ob, nof _, ?_⟩
    try dsimp only [tCons, tC, tNil]
    refine ask_wish (args := []) (word := "fetch") (name := "b") (nms := SS.beltN) hA (hS.same (hB3.same K0)) hb (fun a h => (nomatch h)) (Nat.zero_le _) l6 rfl (fun v G1' hv A1 f1' => ?_) (fun tt G3 e AG ht f => ?_)
    rotate_left
    · refine halt 0 [] [] G3 tt "fetch" "b" AG ?_ ht (keep_h K0 f)
      have e : 0 = ans.length := e
      rw [List.eq_nil_of_length_eq_zero e.symm]
      rfl
    have hv : ans[0]? = some v := hv
    replace A1 : HandAt K C G1' hd dx (hsK me sh an ans md wl 1 [] []) := A1
    have K1 := keep_m K0 f1'
    refine ⟨fun u σ H' => ∃ (a : Nat) (v : V) (m : List (Key × V)) (said : List V), u = ans.length - a + 1 ∧ σ = [some (.ref hd), some v] ∧ HandAt K C H' hd dx (hsK me sh an ans md wl a m said) ∧ Keep3 hd md wl H H' ∧ a ≤ ans.length ∧ v ∈ ans ∧ (m = [] ∨ m = lF) ∧ said.length ≤ a ∧ getS ans [] = getS (v :: ans.drop a) said,
      ⟨_, 1, v, [], [], rfl, rfl, A1, K1, (List.getElem?_eq_some_iff.mp hv).1, List.mem_of_getElem? hv, .inl rfl, Nat.zero_le _, by rw [← drop_at hv]; rfl⟩, ?_⟩
    clear A1 K1 f1' hv
    rintro u σ H2 ⟨a, v, m, said, rfl, rfl, A2, K2, la, mv, hm, ls, est⟩
    by_cases c : v = .non
    · subst c
      refine ⟨_, rfl, rfl, false, rfl, iteF ?_⟩
      rw [getS_non] at est
      exact kQ H2 _ _ A2 K2 rfl rfl (.str _ _) est
    · refine ⟨_, rfl, rfl, true, congrArg V.bl (by rw [decide_eq_false c]; rfl), iteT ⟨_, fun σ' H' z => z, ?_⟩⟩
      have lm : m.length ≤ 1000 := by
        rcases hm with rfl | rfl
        · exact Nat.zero_le _
        · show 1 ≤ 1000
          decide
      -- take
      refine ⟨_, rfl, hd, dx, _, rfl, A2.ob, notk _, ?_⟩
      try dsimp only [tCons, tC, tNil]
      refine ask_take (name := "l") A2 (hS.same (hB3.same K2)) hl la l6 lm rfl (fun v2 G3 hv A3 f3 => ?_) (fun tt G3 e AG ht f => ?_)
      rotate_left
      · refine halt a m said G3 tt "take" "l" AG ?_ ht (keep_h K2 f)
        have e : a = ans.length := e
        rw [est, e, List.drop_length, getS_one c]
      have hv : ans[a]? = some v2 := hv
      have a1 := (List.getElem?_eq_some_iff.mp hv).1
      replace A3 : HandAt K C G3 hd dx (hsK me sh an ans md wl (a + 1) (putK m (Sum.inr "l") (.bl true)) said) := A3
      rw [mine_t hm] at A3
      have K3 := keep_m K2 f3
      -- say
      refine ⟨_, rfl, hd, dx, _, rfl, A3.ob, nos _, ?_⟩
      refine ⟨_, rfl, ?_⟩
      try dsimp only [tCons, tC, tNil]
      refine ask_say A3 (by show said.length ≤ 1000; omega) (vn K3 mv) rfl fun G4 A4 f4 => ?_
      replace A4 : HandAt K C G4 hd dx (hsK me sh an ans md wl (a + 1) lT (said ++ [v])) := A4
      have K4 : Keep3 hd md wl H G4 := keep_w K3 f4
      -- give
      refine ⟨_, rfl, hd, dx, _, rfl, A4.ob, nog _, ?_⟩
      try dsimp only [tCons, tC, tNil]
      refine ask_give (name := "l") A4 (hS.same (hB3.same K4)) hl a1 l6 (by show 1 ≤ 1000; decide) rfl (show heldM lT "l" from by unfold heldM; rfl) (fun v3 G5 hv5 A5 f5 => ?_) (fun tt G5 e AG ht f => ?_)
      rotate_left
      · refine halt (a + 1) lT (said ++ [v]) G5 tt "give" "l" AG ?_ ht (keep_h K4 f)
        have e : a + 1 = ans.length := e
        rw [est, drop_at hv, e, List.drop_length, getS_two c]
      have hv5 : ans[a + 1]? = some v3 := hv5
      have a2 := (List.getElem?_eq_some_iff.mp hv5).1
      replace A5 : HandAt K C G5 hd dx (hsK me sh an ans md wl (a + 1 + 1) (putK lT (Sum.inr "l") (.bl false)) (said ++ [v])) := A5
      rw [mine_f] at A5
      have K5 := keep_m K4 f5
      -- fetch
      refine ⟨_, rfl, hd, dx, _, rfl, A5.ob, nof _, ?_⟩
      try dsimp only [tCons, tC, tNil]
      refine ask_wish (args := []) (word := "fetch") (name := "b") (nms := SS.beltN) A5 (hS.same (hB3.same K5)) hb (fun a h => (nomatch h)) a2 l6 rfl (fun v6 G6 hv6 A6 f6 => ?_) (fun tt G6 e AG ht f => ?_)
      rotate_left
      · refine halt (a + 1 + 1) lF (said ++ [v]) G6 tt "fetch" "b" AG ?_ ht (keep_h K5 f)
        have e : a + 1 + 1 = ans.length := e
        rw [est, drop_at hv, drop_at hv5, e, List.drop_length, getS_three c]
        rfl
      have hv6 : ans[a + 1 + 1]? = some v6 := hv6
      have a3 := (List.getElem?_eq_some_iff.mp hv6).1
      replace A6 : HandAt K C G6 hd dx (hsK me sh an ans md wl (a + 1 + 1 + 1) lF (said ++ [v])) := A6
      refine ⟨ans.length - (a + 1 + 1 + 1) + 1, by omega, a + 1 + 1 + 1, v6, _, _, rfl, rfl, A6, keep_m K5 f6, a3, List.mem_of_getElem? hv6, .inr rfl, by rw [List.length_append]; show _ + 1 ≤ _; omega, ?_⟩
      rw [est, drop_at hv, drop_at hv5, drop_at hv6, getS_three c]
end
end TW
namespace TW
open PySem PySem.Spec PyProof.Rows L2
theorem sm_int {K : PySem.W.Frag} {H : Hp} {sm : V → V → Bool} (h : SmOk K H sm) (a b : Int) : sm (.int a) (.int b) = decide (a = b) := by
  obtain ⟨d, e, h1, h2, h3⟩ := h (.int a) (.int b) ⟨_, .int _ _⟩ ⟨_, .int _ _⟩
  cases h1
  cases h2
  rw [h3]
  rfl
section
variable {sm : V → V → Bool} {S S' : Sto} {k : V} {kind nm : Str} {args : List V} {a : V}
theorem dm_look (dm : DoM sm S k nm kind args a S') (e : kind = "look") : a = valD S.cells nm ∧ S' = S := by
  cases dm
  case look => exact ⟨rfl, rfl⟩
  all_goals exact absurd e (by decide +kernel)
theorem dm_trade {x y : V} (dm : DoM sm S k nm kind [x, y] a S') (e : kind = "trade") : (sm (valD S.cells nm) x = false ∧ a = .bl false ∧ S' = S) ∨ (sm (valD S.cells nm) x = true ∧ a = .bl true ∧ S' = { S with cells := putK S.cells (Sum.inr nm) y }) := by
  cases dm
  case tradeN h => exact .inl ⟨h, rfl, rfl⟩
  case tradeY h => exact .inr ⟨h, rfl, rfl⟩
theorem dm_lay {x : V} (dm : DoM sm S k nm kind [x] a S') (e : kind = "lay") : a = .non ∧ S' = { S with bc := setB S.bc nm (S.bc nm ++ [x]) } := by
  cases dm
  case lay => exact ⟨rfl, rfl⟩
  all_goals exact absurd e (by decide +kernel)
theorem dm_fetch (dm : DoM sm S k nm kind args a S') (e : kind = "fetch") : ∃ r, S.bc nm = a :: r ∧ S' = { S with bc := setB S.bc nm r } := by
  cases dm
  case fetch r h => exact ⟨r, h, rfl⟩
  all_goals exact absurd e (by decide +kernel)
theorem dm_take (dm : DoM sm S k nm kind args a S') (e : kind = "take") : a = .non ∧ S' = { S with holders := putK S.holders (Sum.inr nm) k } := by
  cases dm
  case take => exact ⟨rfl, rfl⟩
  all_goals exact absurd e (by decide +kernel)
theorem dm_give (dm : DoM sm S k nm kind args a S') (e : kind = "give") : a = .non ∧ S' = { S with holders := putK S.holders (Sum.inr nm) .non } := by
  cases dm
  case give => exact ⟨rfl, rfl⟩
  all_goals exact absurd e (by decide +kernel)
end
theorem valD_putK {kvs : List (Key × V)} {nm : Str} {v : V} : valD (putK kvs (Sum.inr nm) v) nm = v := by
  unfold valD
  rw [valV_put, if_pos rfl]
  rfl
/-- a counter under way: what is left, how often it tried, what it looked at last -/
structure CInv (t l r : Nat) (p ans : List V) : Prop where
  eq : ∀ more, cntS (ans ++ more) t 0 = cntS (p ++ more) l r
  le : l ≤ t
  ph : p = [] ∨ ∃ z : Int, p = [.int z]
  par : ans.length % 2 = p.length
  ad : ∀ (i : Nat) (v : V), ans[i]? = some v → (i % 2 = 0 → ∃ z : Int, v = .int z) ∧ (i % 2 = 1 → ∃ b, v = .bl b)
  lz : l = 0 → p = []
theorem CInv.new (t : Nat) : CInv t t 0 [] [] := ⟨fun _ => rfl, Nat.le_refl _, .inl rfl, rfl, fun i v h => (nomatch h), fun _ => rfl⟩
theorem CInv.stand {t l r : Nat} {p ans : List V} (h : CInv t l r p ans) : cntF t ans = (cntS p l r, []) := by
  unfold cntF
  have z := h.eq []
  rw [List.append_nil, List.append_nil] at z
  rw [z]
theorem ad_snoc {ans : List V} {a : V} (h : ∀ (i : Nat) (v : V), ans[i]? = some v → (i % 2 = 0 → ∃ z : Int, v = .int z) ∧ (i % 2 = 1 → ∃ b, v = .bl b)) (ha : (ans.length % 2 = 0 → ∃ z : Int, a = .int z) ∧ (ans.length % 2 = 1 → ∃ b, a = .bl b)) : ∀ (i : Nat) (v : V), (ans ++ [a])[i]? = some v → (i % 2 = 0 → ∃ z : Int, v = .int z) ∧ (i % 2 = 1 → ∃ b, v = .bl b) := fun i v e => by
  by_cases c : i < ans.length
  · rw [List.getElem?_append_left c] at e
    exact h i v e
  · have z := (List.getElem?_eq_some_iff.mp e).1
    rw [List.length_append] at z
    have ei : i = ans.length := by
      have : i < ans.length + 1 := z
      omega
    rw [ei, List.getElem?_append_right (Nat.le_refl _), Nat.sub_self] at e
    obtain rfl := Option.some.inj (show some a = some v from e)
    rw [ei]
    exact ha
theorem CInv.look {t l r : Nat} {ans : List V} {z : Int} (h : CInv t l r [] ans) (l0 : l ≠ 0) : CInv t l r [.int z] (ans ++ [.int z]) := by
  refine ⟨fun more => ?_, h.le, .inr ⟨z, rfl⟩, ?_, ad_snoc h.ad ⟨fun _ => ⟨z, rfl⟩, fun e => ?_⟩, fun e => absurd e l0⟩
  · rw [List.append_assoc, h.eq]
    rfl
  · have q := h.par
    rw [List.length_append]
    show (ans.length + 1) % 2 = 1
    have : ans.length % 2 = 0 := q
    omega
  · have q : ans.length % 2 = 0 := h.par
    omega
theorem CInv.trade {t l r : Nat} {ans : List V} {z : Int} {b : Bool} (h : CInv t l r [.int z] ans) (l0 : l ≠ 0) : CInv t (if b = true then l - 1 else l) (r + 1) [] (ans ++ [.bl b]) := by
  refine ⟨fun more => ?_, ?_, .inl rfl, ?_, ad_snoc h.ad ⟨fun e => ?_, fun _ => ⟨b, rfl⟩⟩, fun _ => rfl⟩
  · rw [List.append_assoc, h.eq]
    show cntS (.int z :: .bl b :: more) l r = _
    rw [cntS_two l0]
    cases b with
    | true => rw [if_pos rfl, if_pos rfl]; rfl
    | false => rw [if_neg (fun z => by injection z with z; cases z), if_neg (fun z => nomatch z)]; rfl
  · have := h.le
    split <;> omega
  · have q : ans.length % 2 = 1 := h.par
    rw [List.length_append]
    show (ans.length + 1) % 2 = 0
    omega
  · have q : ans.length % 2 = 1 := h.par
    omega
/-- the one that gets values under way: what it has asked for last, what it has said, how often it has fetched -/
structure GInv (vals q said ans : List V) (f : Nat) : Prop where
  eq : ∀ more, getS (ans ++ more) [] = getS (q ++ more) said
  cs : (q = [] ∧ said = vals.take f ∧ ans.length = 3 * f ∧ f ≤ vals.length) ∨ (∃ v g, q = [v] ∧ (vals ++ [.non])[g]? = some v ∧ f = g + 1 ∧ said = vals.take g ∧ ans.length = 3 * g + 1) ∨ (∃ v x g, q = [v, x] ∧ vals[g]? = some v ∧ f = g + 1 ∧ said = vals.take g ∧ ans.length = 3 * g + 2)
theorem GInv.new (vals : List V) : GInv vals [] [] [] 0 := ⟨fun _ => rfl, .inl ⟨rfl, rfl, rfl, Nat.zero_le _⟩⟩
theorem GInv.stand {vals q said ans : List V} {f : Nat} (h : GInv vals q said ans f) : getF ans = getS q said := by
  unfold getF
  have z := h.eq []
  rw [List.append_nil, List.append_nil] at z
  exact z
theorem GInv.fetch {vals said ans : List V} {f : Nat} {v : V} (h : GInv vals [] said ans f) (hv : (vals ++ [.non])[f]? = some v) : GInv vals [v] said (ans ++ [v]) (f + 1) := by
  rcases h.cs with ⟨_, h2, h3, h4⟩ | ⟨v', g, e, _⟩ | ⟨v', x, g, e, _⟩
  · refine ⟨fun more => ?_, .inr (.inl ⟨v, f, rfl, hv, rfl, h2, by rw [List.length_append, h3]; rfl⟩)⟩
    rw [List.append_assoc, h.eq]
    rfl
  · cases e
  · cases e
theorem GInv.take {vals said ans : List V} {f : Nat} {v a : V} (nn : v ≠ .non) (h : GInv vals [v] said ans f) : GInv vals [v, a] said (ans ++ [a]) f := by
  rcases h.cs with ⟨e, _⟩ | ⟨v', g, e, h1, h2, h3, h4⟩ | ⟨v', x, g, e, _⟩
  · cases e
  · cases e
    refine ⟨fun more => ?_, .inr (.inr ⟨v, a, g, rfl, ?_, h2, h3, by rw [List.length_append, h4]; rfl⟩)⟩
    · rw [List.append_assoc, h.eq]
      rfl
    · by_cases c : g < vals.length
      · rw [List.getElem?_append_left c] at h1
        exact h1
      · have z := (List.getElem?_eq_some_iff.mp h1).1
        rw [List.length_append] at z
        have eg : g = vals.length := by
          have : g < vals.length + 1 := z
          omega
        rw [eg, List.getElem?_append_right (Nat.le_refl _), Nat.sub_self] at h1
        exact absurd (Option.some.inj (show some V.non = some v from h1)).symm nn
  · cases e
theorem GInv.give {vals said ans : List V} {f : Nat} {v x a : V} (nn : v ≠ .non) (h : GInv vals [v, x] said ans f) : GInv vals [] (said ++ [v]) (ans ++ [a]) f := by
  rcases h.cs with ⟨e, _⟩ | ⟨v', g, e, _⟩ | ⟨v', x', g, e, h1, h2, h3, h4⟩
  · cases e
  · cases e
  · cases e
    have gl := (List.getElem?_eq_some_iff.mp h1).1
    refine ⟨fun more => ?_, .inl ⟨rfl, ?_, by rw [List.length_append, h4, h2]; show 3 * g + 2 + 1 = _; omega, by omega⟩⟩
    · rw [List.append_assoc, h.eq]
      show getS (v :: x :: a :: more) said = _
      rw [getS_three nn]
      rfl
    · rw [h2, h3, List.take_add_one, h1]
      rfl
/-- whether what was looked at is there no more -/
def stale (p : List V) (n : Nat) : Nat := if p = [] ∨ p = [.int (n : Nat)] then 0 else 1
theorem stale_nil {n : Nat} : stale [] n = 0 := if_pos (.inl rfl)
theorem stale_here {n : Nat} : stale [.int (n : Nat)] n = 0 := if_pos (.inr rfl)
theorem stale_le (p : List V) (n : Nat) : stale p n ≤ 1 := by
  unfold stale
  split <;> omega
theorem stale_no {z : Int} {n : Nat} (h : ¬ (n : Int) = z) : stale [.int z] n = 1 := by
  unfold stale
  rw [if_neg]
  rintro (e | e)
  · cases e
  · injection e with e _
    injection e with e
    exact h e.symm
abbrev StepL := List (Nat × List V × V)
def trS (i : Nat) (s : Nat × List V × V) : Bool := decide (s.1 = i) && decide (s.2.1.head? = some (.str "trade"))
def dnS (i : Nat) (s : Nat × List V × V) : Bool := decide (s.1 = i) && decide (s.2.2 = .bl true)
/-- how many steps of a run are so -/
def cnt (p : Nat × List V × V → Bool) (steps : StepL) : Nat := (steps.filter p).length
theorem cnt_snoc (p : Nat × List V × V → Bool) (steps : StepL) (s : Nat × List V × V) : cnt p (steps ++ [s]) = cnt p steps + if p s = true then 1 else 0 := by
  unfold cnt
  rw [List.filter_append, List.length_append]
  by_cases c : p s = true
  · rw [List.filter_cons_of_pos c, if_pos c]
    rfl
  · rw [List.filter_cons_of_neg c, if_neg c]
    rfl
end TW
namespace TW
open PySem PySem.Spec PyProof.Rows L2
/-- what stays of a long run -/
structure LI (t0 t1 : Nat) (vals : List V) (size : V) (S : Sto) (a0 a1 a2 a3 : List V) (steps : StepL) (l0 r0 l1 r1 : Nat) (p0 p1 q said : List V) (f : Nat) : Prop where
  c0 : CInv t0 l0 r0 p0 a0
  c1 : CInv t1 l1 r1 p1 a1
  gi : GInv vals q said a3 f
  n : valD S.cells "n" = .int ((5 + (t0 - l0) + (t1 - l1) : Nat) : Int)
  hl : valD S.holders "l" = if q.length = 2 then .int ((3 : Nat) : Int) else .non
  la : a2.length ≤ vals.length + 1
  fl : f ≤ a2.length
  bc : S.bc "b" = ((vals ++ [V.non]).take a2.length).drop f
  sz : valV S.sizes (Sum.inr "b") = some size
  m : steps.length + 4 * l0 + 4 * l1 + 2 * stale p0 (5 + (t0 - l0) + (t1 - l1)) + 2 * stale p1 (5 + (t0 - l0) + (t1 - l1)) + (vals.length + 1 - a2.length) + (3 * vals.length + 1 - a3.length) ≤ 4 * t0 + 4 * t1 + (vals.length + 1) + (3 * vals.length + 1) + p0.length + p1.length
  n0 : cnt (trS 0) steps = r0
  n1 : cnt (trS 1) steps = r1
  d0 : cnt (dnS 0) steps = t0 - l0
  d1 : cnt (dnS 1) steps = t1 - l1
  ls : a0.length + a1.length + a2.length + a3.length = steps.length
theorem trS_no {i : Nat} {s : Nat × List V × V} (h : s.1 ≠ i) : trS i s = false := by
  unfold trS
  rw [decide_eq_false h]
  rfl
theorem dnS_no {i : Nat} {s : Nat × List V × V} (h : s.1 ≠ i) : dnS i s = false := by
  unfold dnS
  rw [decide_eq_false h]
  rfl
theorem trS_kind {i : Nat} {kind nm : Str} {args : List V} {a : V} (h : kind ≠ "trade") : trS i (i, wishV kind nm args, a) = false := by
  unfold trS wishV
  split
  · rw [decide_eq_true rfl]
    show (true && decide (some (V.str "rest") = some (V.str "trade"))) = false
    rw [decide_eq_false (fun z => by injection z with z; injection z with z; exact absurd z (by decide +kernel))]
    rfl
  · rw [decide_eq_true rfl]
    show (true && decide (some (V.str kind) = some (V.str "trade"))) = false
    rw [decide_eq_false (fun z => by injection z with z; injection z with z; exact h z)]
    rfl
theorem trS_trade {i : Nat} {nm : Str} {args : List V} {a : V} : trS i (i, wishV "trade" nm args, a) = true := by
  unfold trS wishV
  rw [if_neg (by decide +kernel), decide_eq_true rfl]
  show (true && decide (some (V.str "trade") = some (V.str "trade"))) = true
  rw [decide_eq_true rfl]
  rfl
theorem dnS_ne {i : Nat} {ws : List V} {a : V} (h : a ≠ .bl true) : dnS i (i, ws, a) = false := by
  unfold dnS
  rw [decide_eq_false (p := ((i, ws, a) : Nat × List V × V).2.2 = .bl true) h, Bool.and_false]
theorem ne_ib (i : Int) (b : Bool) : V.int i ≠ V.bl b := fun z => nomatch z
theorem ne_ft : V.bl false ≠ V.bl true := fun z => by injection z with z; cases z
theorem dnS_yes {i : Nat} {ws : List V} : dnS i (i, ws, .bl true) = true := by
  unfold dnS
  rw [decide_eq_true rfl, decide_eq_true rfl]
  rfl
theorem cnt_no {p : Nat × List V × V → Bool} {steps : StepL} {s : Nat × List V × V} (h : p s = false) : cnt p (steps ++ [s]) = cnt p steps := by
  rw [cnt_snoc, if_neg (by rw [h]; exact Bool.false_ne_true), Nat.add_zero]
theorem cnt_yes {p : Nat × List V × V → Bool} {steps : StepL} {s : Nat × List V × V} (h : p s = true) : cnt p (steps ++ [s]) = cnt p steps + 1 := by
  rw [cnt_snoc, if_pos h]
theorem len_snoc {α : Type} (l : List α) (a : α) : (l ++ [a]).length = l.length + 1 := List.length_append
theorem LI.new {t0 t1 : Nat} {vals : List V} {size : V} {S : Sto} (h1 : valD S.cells "n" = .int ((5 : Nat) : Int)) (h2 : valD S.holders "l" = .non) (h3 : S.bc "b" = []) (h4 : valV S.sizes (Sum.inr "b") = some size) : LI t0 t1 vals size S [] [] [] [] [] t0 0 t1 0 [] [] [] [] 0 := by
  refine ⟨CInv.new _, CInv.new _, GInv.new _, ?_, h2, Nat.zero_le _, Nat.le_refl _, ?_, h4, ?_, rfl, rfl, ?_, ?_, rfl⟩
  · rw [h1, Nat.sub_self, Nat.sub_self]
  · rw [h3]
    rfl
  · rw [stale_nil]
    show 0 + 4 * t0 + 4 * t1 + 2 * 0 + 2 * 0 + (vals.length + 1 - 0) + (3 * vals.length + 1 - 0) ≤ 4 * t0 + 4 * t1 + (vals.length + 1) + (3 * vals.length + 1) + 0 + 0
    omega
  · rw [Nat.sub_self]
    rfl
  · rw [Nat.sub_self]
    rfl
section
variable {sm : V → V → Bool} {t0 t1 : Nat} {vals : List V} {size : V} {S S' : Sto} {a0 a1 a2 a3 : List V} {steps : StepL} {l0 r0 l1 r1 : Nat} {p0 p1 q said : List V} {f : Nat} {kind nm : Str} {args : List V} {a : V}
theorem LI.step0 (h : LI t0 t1 vals size S a0 a1 a2 a3 steps l0 r0 l1 r1 p0 p1 q said f) (smI : ∀ x y : Int, sm (.int x) (.int y) = decide (x = y)) (est : (cntF t0 a0).1 = .wish kind nm args) (dm : DoM sm S (.int ((0 : Nat) : Int)) nm kind args a S') :
    ∃ l0' r0' p0', LI t0 t1 vals size S' (a0 ++ [a]) a1 a2 a3 (steps ++ [(0, wishV kind nm args, a)]) l0' r0' l1 r1 p0' p1 q said f := by
  rw [h.c0.stand] at est
  have est : cntS p0 l0 r0 = .wish kind nm args := est
  have lz : l0 ≠ 0 := fun e => by
    rw [e, cntS_zero] at est
    cases est
  have le := h.c0.le
  have hm := h.m
  have hls := h.ls
  rcases h.c0.ph with rfl | ⟨z, rfl⟩
  · rw [cntS_nil lz] at est
    injection est with e1 e2 e3
    subst e1 e2 e3
    obtain ⟨rfl, rfl⟩ := dm_look dm rfl
    refine ⟨l0, r0, [valD S'.cells "n"], ?_⟩
    rw [h.n]
    refine { h with c0 := h.c0.look lz, m := ?_, n0 := ?_, n1 := ?_, d0 := ?_, d1 := ?_, ls := ?_ }
    · rw [stale_here, len_snoc]
      rw [stale_nil] at hm
      have e0 : ([] : List V).length = 0 := rfl
      have e1 : ([V.int ((5 + (t0 - l0) + (t1 - l1) : Nat) : Int)] : List V).length = 1 := rfl
      omega
    · rw [cnt_no (trS_kind (by decide +kernel))]; exact h.n0
    · rw [cnt_no (trS_no (by show (0 : Nat) ≠ 1; decide))]; exact h.n1
    · rw [cnt_no (dnS_ne (ne_ib _ _))]; exact h.d0
    · rw [cnt_no (dnS_no (by show (0 : Nat) ≠ 1; decide))]; exact h.d1
    · rw [len_snoc, len_snoc]; omega
  · rw [cntS_one lz] at est
    injection est with e1 e2 e3
    subst e1 e2 e3
    have hn := h.n
    rcases dm_trade dm rfl with ⟨hs, rfl, rfl⟩ | ⟨hs, rfl, rfl⟩
    · rw [hn, smI] at hs
      have ne := of_decide_eq_false hs
      refine ⟨l0, r0 + 1, [], ?_⟩
      have cc := h.c0.trade (b := false) lz
      rw [if_neg (fun z => nomatch z)] at cc
      refine { h with c0 := cc, m := ?_, n0 := ?_, n1 := ?_, d0 := ?_, d1 := ?_, ls := ?_ }
      · rw [stale_nil, len_snoc]
        rw [stale_no ne] at hm
        have e0 : ([] : List V).length = 0 := rfl
        have e1 : ([V.int z] : List V).length = 1 := rfl
        omega
      · rw [cnt_yes trS_trade, h.n0]
      · rw [cnt_no (trS_no (by show (0 : Nat) ≠ 1; decide))]; exact h.n1
      · rw [cnt_no (dnS_ne ne_ft)]; exact h.d0
      · rw [cnt_no (dnS_no (by show (0 : Nat) ≠ 1; decide))]; exact h.d1
      · rw [len_snoc, len_snoc]; omega
    · rw [hn, smI] at hs
      have ez := of_decide_eq_true hs
      refine ⟨l0 - 1, r0 + 1, [], ?_⟩
      have cc := h.c0.trade (b := true) lz
      rw [if_pos rfl] at cc
      have en : 5 + (t0 - (l0 - 1)) + (t1 - l1) = 5 + (t0 - l0) + (t1 - l1) + 1 := by omega
      refine { h with c0 := cc, n := ?_, m := ?_, n0 := ?_, n1 := ?_, d0 := ?_, d1 := ?_, ls := ?_ }
      · show valD (putK S.cells (Sum.inr "n") (plus1 (.int z))) "n" = _
        rw [valD_putK, en, ← ez]
        rfl
      · rw [stale_nil, len_snoc]
        have q1 := stale_le p1 (5 + (t0 - (l0 - 1)) + (t1 - l1))
        have e0 : ([] : List V).length = 0 := rfl
        have e1 : ([V.int z] : List V).length = 1 := rfl
        omega
      · rw [cnt_yes trS_trade, h.n0]
      · rw [cnt_no (trS_no (by show (0 : Nat) ≠ 1; decide))]; exact h.n1
      · rw [cnt_yes dnS_yes, h.d0]; omega
      · rw [cnt_no (dnS_no (by show (0 : Nat) ≠ 1; decide))]; exact h.d1
      · rw [len_snoc, len_snoc]; omega
theorem LI.step1 (h : LI t0 t1 vals size S a0 a1 a2 a3 steps l0 r0 l1 r1 p0 p1 q said f) (smI : ∀ x y : Int, sm (.int x) (.int y) = decide (x = y)) (est : (cntF t1 a1).1 = .wish kind nm args) (dm : DoM sm S (.int ((1 : Nat) : Int)) nm kind args a S') :
    ∃ l1' r1' p1', LI t0 t1 vals size S' a0 (a1 ++ [a]) a2 a3 (steps ++ [(1, wishV kind nm args, a)]) l0 r0 l1' r1' p0 p1' q said f := by
  rw [h.c1.stand] at est
  have est : cntS p1 l1 r1 = .wish kind nm args := est
  have lz : l1 ≠ 0 := fun e => by
    rw [e, cntS_zero] at est
    cases est
  have le := h.c1.le
  have hm := h.m
  have hls := h.ls
  rcases h.c1.ph with rfl | ⟨z, rfl⟩
  · rw [cntS_nil lz] at est
    injection est with e1 e2 e3
    subst e1 e2 e3
    obtain ⟨rfl, rfl⟩ := dm_look dm rfl
    refine ⟨l1, r1, [valD S'.cells "n"], ?_⟩
    rw [h.n]
    refine { h with c1 := h.c1.look lz, m := ?_, n0 := ?_, n1 := ?_, d0 := ?_, d1 := ?_, ls := ?_ }
    · rw [stale_here, len_snoc]
      rw [stale_nil] at hm
      have e0 : ([] : List V).length = 0 := rfl
      have e1 : ([V.int ((5 + (t0 - l0) + (t1 - l1) : Nat) : Int)] : List V).length = 1 := rfl
      omega
    · rw [cnt_no (trS_no (by show (1 : Nat) ≠ 0; decide))]; exact h.n0
    · rw [cnt_no (trS_kind (by decide +kernel))]; exact h.n1
    · rw [cnt_no (dnS_no (by show (1 : Nat) ≠ 0; decide))]; exact h.d0
    · rw [cnt_no (dnS_ne (ne_ib _ _))]; exact h.d1
    · rw [len_snoc, len_snoc]; omega
  · rw [cntS_one lz] at est
    injection est with e1 e2 e3
    subst e1 e2 e3
    have hn := h.n
    rcases dm_trade dm rfl with ⟨hs, rfl, rfl⟩ | ⟨hs, rfl, rfl⟩
    · rw [hn, smI] at hs
      have ne := of_decide_eq_false hs
      refine ⟨l1, r1 + 1, [], ?_⟩
      have cc := h.c1.trade (b := false) lz
      rw [if_neg (fun z => nomatch z)] at cc
      refine { h with c1 := cc, m := ?_, n0 := ?_, n1 := ?_, d0 := ?_, d1 := ?_, ls := ?_ }
      · rw [stale_nil, len_snoc]
        rw [stale_no ne] at hm
        have e0 : ([] : List V).length = 0 := rfl
        have e1 : ([V.int z] : List V).length = 1 := rfl
        omega
      · rw [cnt_no (trS_no (by show (1 : Nat) ≠ 0; decide))]; exact h.n0
      · rw [cnt_yes trS_trade, h.n1]
      · rw [cnt_no (dnS_no (by show (1 : Nat) ≠ 0; decide))]; exact h.d0
      · rw [cnt_no (dnS_ne ne_ft)]; exact h.d1
      · rw [len_snoc, len_snoc]; omega
    · rw [hn, smI] at hs
      have ez := of_decide_eq_true hs
      refine ⟨l1 - 1, r1 + 1, [], ?_⟩
      have cc := h.c1.trade (b := true) lz
      rw [if_pos rfl] at cc
      have en : 5 + (t0 - l0) + (t1 - (l1 - 1)) = 5 + (t0 - l0) + (t1 - l1) + 1 := by omega
      refine { h with c1 := cc, n := ?_, m := ?_, n0 := ?_, n1 := ?_, d0 := ?_, d1 := ?_, ls := ?_ }
      · show valD (putK S.cells (Sum.inr "n") (plus1 (.int z))) "n" = _
        rw [valD_putK, en, ← ez]
        rfl
      · rw [stale_nil, len_snoc]
        have q1 := stale_le p0 (5 + (t0 - l0) + (t1 - (l1 - 1)))
        have e0 : ([] : List V).length = 0 := rfl
        have e1 : ([V.int z] : List V).length = 1 := rfl
        omega
      · rw [cnt_no (trS_no (by show (1 : Nat) ≠ 0; decide))]; exact h.n0
      · rw [cnt_yes trS_trade, h.n1]
      · rw [cnt_no (dnS_no (by show (1 : Nat) ≠ 0; decide))]; exact h.d0
      · rw [cnt_yes dnS_yes, h.d1]; omega
      · rw [len_snoc, len_snoc]; omega
theorem at_lay {vals : List V} {n : Nat} (h : n ≤ vals.length) : (vals ++ [V.non])[n]? = some ((vals[n]?).getD .non) := by
  by_cases c : n < vals.length
  · rw [List.getElem?_append_left c, List.getElem?_eq_getElem c]
    rfl
  · have e : n = vals.length := by omega
    rw [e, List.getElem?_append_right (Nat.le_refl _), Nat.sub_self, List.getElem?_eq_none (Nat.le_refl _)]
    rfl
theorem LI.step2 (h : LI t0 t1 vals size S a0 a1 a2 a3 steps l0 r0 l1 r1 p0 p1 q said f) (est : (layF vals a2).1 = .wish kind nm args) (dm : DoM sm S (.int ((2 : Nat) : Int)) nm kind args a S') :
    LI t0 t1 vals size S' a0 a1 (a2 ++ [a]) a3 (steps ++ [(2, wishV kind nm args, a)]) l0 r0 l1 r1 p0 p1 q said f := by
  have hm := h.m
  have hls := h.ls
  have hfl := h.fl
  have est : (if a2.length ≤ vals.length then Stop.wish "lay" "b" [(vals[a2.length]?).getD .non] else .told (.int (vals.length : Nat))) = .wish kind nm args := est
  by_cases c : a2.length ≤ vals.length
  · rw [if_pos c] at est
    injection est with e1 e2 e3
    subst e1 e2 e3
    obtain ⟨rfl, rfl⟩ := dm_lay dm rfl
    refine { h with la := ?_, fl := ?_, bc := ?_, m := ?_, n0 := ?_, n1 := ?_, d0 := ?_, d1 := ?_, ls := ?_ }
    · rw [len_snoc]; omega
    · rw [len_snoc]; omega
    · show setB S.bc "b" (S.bc "b" ++ [_]) "b" = _
      unfold setB
      rw [if_pos rfl, h.bc, len_snoc, List.take_add_one, at_lay c, List.drop_append_of_le_length (by rw [List.length_take, List.length_append]; show f ≤ min a2.length (vals.length + 1); omega)]
      rfl
    · rw [len_snoc, len_snoc]; omega
    · rw [cnt_no (trS_no (by show (2 : Nat) ≠ 0; decide))]; exact h.n0
    · rw [cnt_no (trS_no (by show (2 : Nat) ≠ 1; decide))]; exact h.n1
    · rw [cnt_no (dnS_no (by show (2 : Nat) ≠ 0; decide))]; exact h.d0
    · rw [cnt_no (dnS_no (by show (2 : Nat) ≠ 1; decide))]; exact h.d1
    · rw [len_snoc, len_snoc]; omega
  · rw [if_neg c] at est
    cases est
theorem g_lt {vals : List V} {g : Nat} {v : V} (h : (vals ++ [V.non])[g]? = some v) (nn : v ≠ .non) : g < vals.length := by
  have z := (List.getElem?_eq_some_iff.mp h).1
  rw [List.length_append] at z
  by_cases c : g < vals.length
  · exact c
  · have eg : g = vals.length := by
      have : g < vals.length + 1 := z
      omega
    rw [eg, List.getElem?_append_right (Nat.le_refl _), Nat.sub_self] at h
    exact absurd (Option.some.inj (show some V.non = some v from h)).symm nn
theorem LI.step3 (h : LI t0 t1 vals size S a0 a1 a2 a3 steps l0 r0 l1 r1 p0 p1 q said f) (nv : ∀ v ∈ vals, v ≠ .non) (est : (getF a3).1 = .wish kind nm args) (dm : DoM sm S (.int ((3 : Nat) : Int)) nm kind args a S') :
    ∃ q' said' f', LI t0 t1 vals size S' a0 a1 a2 (a3 ++ [a]) (steps ++ [(3, wishV kind nm args, a)]) l0 r0 l1 r1 p0 p1 q' said' f' := by
  have hm := h.m
  have hls := h.ls
  have hfl := h.fl
  have hla := h.la
  have hl := h.hl
  rw [h.gi.stand] at est
  have k0 : cnt (trS 0) (steps ++ [(3, wishV kind nm args, a)]) = r0 := by rw [cnt_no (trS_no (by show (3 : Nat) ≠ 0; decide))]; exact h.n0
  have k1 : cnt (trS 1) (steps ++ [(3, wishV kind nm args, a)]) = r1 := by rw [cnt_no (trS_no (by show (3 : Nat) ≠ 1; decide))]; exact h.n1
  have k2 : cnt (dnS 0) (steps ++ [(3, wishV kind nm args, a)]) = t0 - l0 := by rw [cnt_no (dnS_no (by show (3 : Nat) ≠ 0; decide))]; exact h.d0
  have k3 : cnt (dnS 1) (steps ++ [(3, wishV kind nm args, a)]) = t1 - l1 := by rw [cnt_no (dnS_no (by show (3 : Nat) ≠ 1; decide))]; exact h.d1
  rcases h.gi.cs with ⟨rfl, h2, h3, h4⟩ | ⟨v, g, rfl, h1, h2, h3, h4⟩ | ⟨v, x, g, rfl, h1, h2, h3, h4⟩
  · have est : Stop.wish "fetch" "b" [] = .wish kind nm args := est
    injection est with e1 e2 e3
    subst e1 e2 e3
    obtain ⟨r, hr, rfl⟩ := dm_fetch dm rfl
    have hb := h.bc
    rw [hr] at hb
    have fa : f < a2.length := by
      rcases Nat.lt_or_ge f a2.length with c | c
      · exact c
      · rw [List.drop_eq_nil_of_le (by rw [List.length_take]; omega)] at hb
        cases hb
    have hx : ((vals ++ [V.non]).take a2.length)[f]? = some a := by
      have z := congrArg (fun l => l[0]?) hb
      rw [List.getElem?_drop, Nat.add_zero] at z
      exact z.symm
    have hd := drop_at hx
    rw [← hb] at hd
    injection hd with _ hd
    rw [List.getElem?_take, if_pos fa] at hx
    refine ⟨[a], said, f + 1, { h with gi := h.gi.fetch hx, hl := hl, fl := fa, bc := ?_, m := ?_, n0 := k0, n1 := k1, d0 := k2, d1 := k3, ls := ?_ }⟩
    · show setB S.bc "b" r "b" = _
      unfold setB
      rw [if_pos rfl, hd]
    · rw [len_snoc, len_snoc]; omega
    · rw [len_snoc, len_snoc]; omega
  · by_cases c : v = .non
    · rw [c, getS_non] at est
      cases est
    · rw [getS_one c] at est
      injection est with e1 e2 e3
      subst e1 e2 e3
      obtain ⟨rfl, rfl⟩ := dm_take dm rfl
      have gl := g_lt h1 c
      refine ⟨[v, .non], said, f, { h with gi := h.gi.take c, hl := ?_, m := ?_, n0 := k0, n1 := k1, d0 := k2, d1 := k3, ls := ?_ }⟩
      · show valD (putK S.holders (Sum.inr "l") _) "l" = _
        rw [valD_putK]
        rfl
      · rw [len_snoc, len_snoc]; omega
      · rw [len_snoc, len_snoc]; omega
  · have c := nv v (List.mem_of_getElem? h1)
    rw [getS_two c] at est
    have est : Stop.wish "give" "l" [] = .wish kind nm args := est
    injection est with e1 e2 e3
    subst e1 e2 e3
    obtain ⟨rfl, rfl⟩ := dm_give dm rfl
    have gl := (List.getElem?_eq_some_iff.mp h1).1
    refine ⟨[], said ++ [v], f, { h with gi := h.gi.give c, hl := ?_, m := ?_, n0 := k0, n1 := k1, d0 := k2, d1 := k3, ls := ?_ }⟩
    · show valD (putK S.holders (Sum.inr "l") _) "l" = _
      rw [valD_putK]
      rfl
    · rw [len_snoc, len_snoc]; omega
    · rw [len_snoc, len_snoc]; omega
/-- where no work can go, all have come to their ends -/
theorem LI.over (h : LI t0 t1 vals size S a0 a1 a2 a3 steps l0 r0 l1 r1 p0 p1 q said f) (nv : ∀ v ∈ vals, v ≠ .non) (hsz : size = .non ∨ ∃ i : Int, size = .int i ∧ 1 ≤ i) (n0 : canS sm S (cntF t0) a0 = false) (n1 : canS sm S (cntF t1) a1 = false) (n2 : canS sm S (layF vals) a2 = false) (n3 : canS sm S getF a3 = false) :
    l0 = 0 ∧ l1 = 0 ∧ a2.length = vals.length + 1 ∧ q = [.non] ∧ said = vals ∧ f = vals.length + 1 := by
  have ctr : ∀ {t l r : Nat} {p ans : List V}, CInv t l r p ans → canS sm S (cntF t) ans = false → l = 0 := fun {t l r p ans} c n => by
    by_cases lz : l = 0
    · exact lz
    · unfold canS at n
      rw [c.stand] at n
      rcases c.ph with rfl | ⟨z, rfl⟩
      · have e : (cntS [] l r, ([] : List V)).1 = Stop.wish "look" "n" [] := cntS_nil lz
        rw [e] at n
        have n : letsM sm S "look" "n" [] = false := n
        rw [show letsM sm S "look" "n" [] = true from (if_neg (by decide +kernel)).trans ((if_neg (by decide +kernel)).trans ((if_neg (by decide +kernel)).trans (if_neg (by decide +kernel))))] at n
        cases n
      · have e : (cntS [V.int z] l r, ([] : List V)).1 = Stop.wish "trade" "n" [.int z, plus1 (.int z)] := cntS_one lz
        rw [e] at n
        have n : letsM sm S "trade" "n" [.int z, plus1 (.int z)] = false := n
        rw [show letsM sm S "trade" "n" [.int z, plus1 (.int z)] = true from (if_neg (by decide +kernel)).trans ((if_neg (by decide +kernel)).trans ((if_neg (by decide +kernel)).trans (if_neg (by decide +kernel))))] at n
        cases n
  -- the one that gets: it waits for a value, or is at its end
  have got : (q = [] ∧ f ≤ vals.length ∧ (S.bc "b").isEmpty = true) ∨ (q = [.non] ∧ said = vals ∧ f = vals.length + 1) := by
    unfold canS at n3
    rw [h.gi.stand] at n3
    rcases h.gi.cs with ⟨rfl, h2, h3, h4⟩ | ⟨v, g, rfl, h1, h2, h3, h4⟩ | ⟨v, x, g, rfl, h1, h2, h3, h4⟩
    · have n3 : letsM sm S "fetch" "b" [] = false := n3
      rw [show letsM sm S "fetch" "b" [] = !(S.bc "b").isEmpty from (if_neg (by decide +kernel)).trans ((if_neg (by decide +kernel)).trans ((if_neg (by decide +kernel)).trans (if_pos rfl)))] at n3
      exact .inl ⟨rfl, h4, by
        revert n3
        cases (S.bc "b").isEmpty
        · exact fun z => (nomatch z)
        · exact fun _ => rfl⟩
    · by_cases c : v = .non
      · subst c
        have eg : g = vals.length := by
          have z := (List.getElem?_eq_some_iff.mp h1).1
          rw [List.length_append] at z
          have z : g < vals.length + 1 := z
          rcases Nat.lt_or_ge g vals.length with c | c
          · rw [List.getElem?_append_left c] at h1
            exact absurd rfl (nv _ (List.mem_of_getElem? h1))
          · omega
        exact .inr ⟨rfl, by rw [h3, eg, List.take_length], by omega⟩
      · rw [getS_one c] at n3
        have n3 : letsM sm S "take" "l" [] = false := n3
        have hl : valD S.holders "l" = .non := h.hl
        rw [show letsM sm S "take" "l" [] = isNon (valD S.holders "l") from (if_neg (by decide +kernel)).trans (if_pos rfl), hl] at n3
        cases n3
    · have c := nv v (List.mem_of_getElem? h1)
      rw [getS_two c] at n3
      have n3 : letsM sm S "give" "l" [] = false := n3
      rw [show letsM sm S "give" "l" [] = true from (if_neg (by decide +kernel)).trans ((if_neg (by decide +kernel)).trans ((if_neg (by decide +kernel)).trans (if_neg (by decide +kernel))))] at n3
      cases n3
  have hla := h.la
  have hfl := h.fl
  have lb : (S.bc "b").length = a2.length - f := by
    rw [h.bc, List.length_drop, List.length_take, List.length_append]
    show min a2.length (vals.length + 1) - f = _
    omega
  have e2 : a2.length = vals.length + 1 := by
    rcases Nat.lt_or_ge vals.length a2.length with c | c
    · omega
    · unfold canS at n2
      have est : (layF vals a2).1 = .wish "lay" "b" [(vals[a2.length]?).getD .non] := if_pos c
      rw [est] at n2
      have n2 : letsM sm S "lay" "b" _ = false := n2
      rw [show letsM sm S "lay" "b" [(vals[a2.length]?).getD .non] = room S "b" from (if_neg (by decide +kernel)).trans ((if_neg (by decide +kernel)).trans (if_pos rfl))] at n2
      unfold room at n2
      rw [h.sz] at n2
      rcases hsz with rfl | ⟨i, rfl, i1⟩
      · cases n2
      · have z := of_decide_eq_false n2
        rcases got with ⟨_, _, em⟩ | ⟨_, _, ef⟩
        · rw [List.isEmpty_iff.mp em] at z
          exact absurd (show ((([] : List V).length : Nat) : Int) < i from by show (0 : Int) < i; omega) z
        · omega
  rcases got with ⟨_, fle, em⟩ | ⟨g1, g2, g3⟩
  · rw [List.isEmpty_iff.mp em] at lb
    have lb : 0 = a2.length - f := lb
    omega
  · exact ⟨ctr h.c0 n0, ctr h.c1 n1, e2, g1, g2, g3⟩
end
end TW
namespace TW
open PySem PySem.Spec PyProof.Rows L2 LamX
/-- the numbers below n that are told True -/
def upN (f : Nat → Bool) : Nat → List Nat
  | 0 => []
  | i + 1 => if f i = true then upN f i ++ [i] else upN f i
theorem upTo_upN (f : Nat → Bool) : ∀ n, upTo f n = (upN f n).map fun k => V.int (k : Nat)
  | 0 => rfl
  | n + 1 => by
    unfold upTo upN
    split
    · rw [List.map_append, upTo_upN f n]
      rfl
    · exact upTo_upN f n
theorem upN_mem (f : Nat → Bool) : ∀ n k, k ∈ upN f n → k < n ∧ f k = true
  | 0, k, h => nomatch h
  | n + 1, k, h => by
    unfold upN at h
    split at h
    · rename_i c
      rcases List.mem_append.mp h with h | h
      · exact ⟨Nat.lt_succ_of_lt (upN_mem f n k h).1, (upN_mem f n k h).2⟩
      · rw [List.mem_singleton.mp h]
        exact ⟨Nat.lt_succ_self _, c⟩
    · exact ⟨Nat.lt_succ_of_lt (upN_mem f n k h).1, (upN_mem f n k h).2⟩
theorem upN_len (f : Nat → Bool) : ∀ n, (upN f n).length ≤ n
  | 0 => Nat.le_refl _
  | n + 1 => by
    unfold upN
    split
    · rw [List.length_append]
      exact Nat.succ_le_succ (upN_len f n)
    · exact Nat.le_succ_of_le (upN_len f n)
theorem upN_none (f : Nat → Bool) : ∀ n, upN f n = [] → ∀ k, k < n → f k = false
  | 0, _, k, h => absurd h (Nat.not_lt_zero _)
  | n + 1, e, k, h => by
    unfold upN at e
    split at e
    · exact absurd e (by simp)
    · rename_i c
      by_cases hk : k = n
      · rw [hk]
        exact Bool.eq_false_iff.mpr c
      · exact upN_none f n e k (by omega)
theorem dpall_nat {K : PySem.W.Frag} {H : Hp} : ∀ ls : List Nat, DpAll K H (ls.map fun k => V.int (k : Nat)) (ls.map fun k => PyData.int (k : Nat))
  | [] => .nil
  | a :: l => .cons (.int _) (dpall_nat l)
theorem shaped_nat : ∀ ls : List Nat, ls.length ≤ 4 → SeqAt.shaped (.list (ls.map fun k => PyData.int (k : Nat))) = true
  | [], _ => rfl
  | [_], _ => rfl
  | [_, _], _ => rfl
  | [_, _, _], _ => rfl
  | [_, _, _, _], _ => rfl
  | _ :: _ :: _ :: _ :: _ :: _, h => by
    simp only [List.length_cons] at h
    omega
section
variable {K : PySem.W.Frag} {H : Hp}
theorem upN_tw {f : Nat → Bool} {m : Nat} {a b : Addr} {n : Nat} (few : m ≤ 1000) (ha : H a = some (.lst (upTo f m))) (hb : H b = some (.lst (upTo f m))) : Tw K H (n + 1) (.ref a) (.ref b) := by
  refine .lst (SqL.of ha) (SqL.of hb) rfl (Nat.le_trans (upTo_len f m) few) fun i x y e1 e2 => ?_
  obtain rfl := Option.some.inj (e1.symm.trans e2)
  rw [upTo_upN, List.getElem?_map] at e1
  obtain ⟨k, _, rfl⟩ := Option.map_eq_some_iff.mp e1
  exact .int _ _
end
theorem eqv_upN (l : List Nat) : PyData.eqv (.list (l.map fun k => PyData.int (k : Nat))) (.list []) = l.isEmpty := by
  cases l <;> rfl
theorem upTo_empty {f : Nat → Bool} {m : Nat} (h : upN f m = []) : (upTo f m).isEmpty = true := by
  rw [upTo_upN, h]
  rfl
end TW
namespace TW
open PySem PySem.Spec PyProof.Rows L2 LamX
abbrev sLed : Stmt := top 71
/-- three numbers, that draws come from -/
def Nm3 (p : Addr) (H : Hp) : Prop := ∃ x y z : Int, H p = some (.lst [.int x, .int y, .int z])
def spLed (P : Program) (w : World) (K : PySem.W.Frag) (CR CT CP CW CC pS : Addr) (S : Addr → Option Sp) (Rel : Hp → V → V → Bool → Prop) (spC : Sp) : Sp := fun vs H Q _ => ∃ (r p : Addr) (far : Nat) (Iv : Nat → Hp → Prop), vs = [.ref r, .ref p, .int (far : Nat)] ∧ far ≤ 1000 ∧ Iv 0 H ∧
  (∀ i H1, i < far → Iv i H1 → (∃ dx fs, H1 r = some (.ins CR dx fs) ∧ fs.lookup ("can" : Str) = none) ∧ ∃ (g : Nat → Bool) (m : Nat), m ≤ 4 ∧
    spCan K CR CT CP Rel [.ref r] H1 (fun v H2 => ∃ D, v = .ref D ∧ H2 D = some (.lst (upTo g m)) ∧ D ≠ p ∧ ∀ H3, Same H2 H3 → (upN g m = [] → Q (.bl true) H3) ∧ Nm3 p H3 ∧ (∃ dx fs, H3 r = some (.ins CR dx fs) ∧ fs.lookup ("go" : Str) = none) ∧
      ∀ k ∈ upN g m, ∀ a b c : Int, spGo P w K CR CT CP CW CC pS S Rel spC [.ref r, .int (k : Nat)] (upd H3 p (.lst [.int a, .int b, .int c])) (fun _ H5 => Iv (i + 1) H5) E0) E0) ∧
  ∀ H1, Iv far H1 → Q (.bl false) H1
abbrev NLed : List Str := ["_law_run", "_law_draws", "_law_far", "_law_at", "_law_can"]
theorem scLed : FnScope NLed ["_law_run", "_law_draws", "_law_far"] (defScope sLed) := ⟨rfl, rfl, rfl, by decide +kernel, rfl, by decide +kernel, by decide +kernel⟩
section
variable {P : Program} {w : World} {K : PySem.W.Frag} {mg : Str → Option Value} {base : Heap} {CR CT CP CW CC pS : Addr} {S : Addr → Option Sp} {Rel : Hp → V → V → Bool → Prop} {spC : Sp} {n : Nat}
theorem ok_led {f fC fO fD : Addr} {fd fdC fdO fdD : FuncData} (F : Fun K "_law_led" "_law_led" sLed f fd) (B : Blt mg) (X : RTxt K CR) (hn : 1 ≤ n)
    (GC : FnOk P w K mg base CX0 n fC fdC ["self"] (spCan K CR CT CP Rel)) (hC : Meth K CR "can" fC) (bC : Binds K fdC ["self"] [])
    (GO : FnOk P w K mg base (L2.CX P w) n fO fdO ["self", "k"] (spGo P w K CR CT CP CW CC pS S Rel spC)) (hO : Meth K CR "go" fO) (bO : Binds K fdO ["self", "k"] [])
    (GD : FnOk P w K mg base CX0 1 fD fdD ["_law_draws", "_law_many"] spDraw) (mD : mg "_law_draw" = some (.ref fD)) (kD : PySem.W.keepIn K (.ref fD) = true) (bD : Binds K fdD ["_law_draws", "_law_many"] []) :
    FnOk P w K mg base (L2.CX P w) (n + 1) f fd ["_law_run", "_law_draws", "_law_far"] (spLed P w K CR CT CP CW CC pS S Rel spC) := by
  refine F.okX scLed (fun vs H Q E h => ?_) (fun cdv A outer s H vs Q E hr h => ?_)
  · obtain ⟨r, p, far, Iv, rfl, _⟩ := h
    rfl
  · obtain ⟨r, p, far, Iv, rfl, few, i0, turn, done⟩ := h
    have hr1 : Room 1 _ := hr.mono hn
    refine ⟨_, pss_cons (ps_for (passes_of rfl) rfl (pi_range1 (by rfl) B.range (pa_cons (pv 2) pa_nil)) (pg_name (i := 3) scLed.nd rfl (Or.inl rfl))
        (pss_cons (ps_set (i := 4) scLed.nd rfl (.inl rfl) (pe_meth0 (pv 0) X.cl hC (fnOk_up0 GC) hr bC .nil pass0))
        (pss_cons (ps_if (pt_cmpR (op_eqD hr.units) (pv 4) (pe_lst pa_nil) (nomark _)) (pss_one (ps_ret pe_bl)) pss_nil)
        (pss_one (ps_expr (pe_meth (pv 0) X.cl hO (fnOk_up GO) hr bO .nil passN (pa_cons (pe_ix ix_list (pv 4) (pe_call GD hr1 rfl mD kD bD .nil pass0 (pa_cons (pv 1) (pa_cons (pe_callB call_len_seq (by rfl) B.len PySem.boot_len (pa_cons (pv 4) pa_nil)) pa_nil))) (fun _ _ => rfl)) pa_nil)))))))
      (pss_one (ps_ret pe_bl)), ?_⟩
    refine ⟨_, rfl, (far : Nat), rfl, by omega, by omega, ?_⟩
    refine for_range (lo := 0) (n := far) (fun i σ H' => ∃ q3 q4 : Option V, σ = [some (.ref r), some (.ref p), some (.int (far : Nat)), q3, q4] ∧ Iv i H') ⟨_, _, rfl, i0⟩ ?_ ?_
    · rintro i σ H1 hi ⟨q3, q4, rfl, iv⟩
      obtain ⟨⟨dx, fs, ho, hl⟩, g, m, m4, hcan⟩ := turn i H1 hi iv
      refine ⟨_, rfl, r, dx, fs, rfl, ho, hl, ?_⟩
      refine ⟨_, _, hcan, fun v H2 q => ?_⟩
      obtain ⟨D, rfl, hD, Dp, next⟩ := q
      refine ⟨_, rfl, Nat.zero_le _, fun k2 hk2 => ?_⟩
      have s2 := same_new (o := .lst []) hk2
      have ez : (upd H2 k2 (.lst [])) k2 = some (.lst []) := upd_same
      have e3 := s2 _ _ hD
      obtain ⟨over, ⟨x, y, z, hp⟩, ⟨dx2, fs2, ho2, hl2⟩, go⟩ := next _ s2
      generalize upd H2 k2 (.lst []) = H3 at *
      have e1 := e3
      rw [upTo_upN] at e1
      refine ⟨.list ((upN g m).map fun k => PyData.int (k : Nat)), .list [], .lst (SqL.of e1) (dpall_nat _), .lst (SqL.of ez) .nil, shaped_nat _ (Nat.le_trans (upN_len _ _) m4), rfl, ?_⟩
      rw [eqv_upN]
      refine ⟨_, rfl, ?_⟩
      cases eu : upN g m with
      | nil =>
        refine iteT ?_
        exact over eu
      | cons k0 ks =>
        refine iteF ?_
        have ll : (upTo g m).length = (upN g m).length := by rw [upTo_upN, List.length_map]
        have lp : 0 < (upTo g m).length := by rw [ll, eu]; exact Nat.succ_pos _
        have l4 : (upTo g m).length ≤ 4 := Nat.le_trans (upTo_len _ _) m4
        refine ⟨_, rfl, r, dx2, fs2, rfl, ho2, hl2, _, rfl, _, rfl, _, rfl, D, _, rfl, .inl (SqL.of e3), p, x, y, z, _, rfl, hp, by omega, by omega, fun rr a b c lo hi2 => ?_⟩
        obtain ⟨j, rfl, hj⟩ : ∃ j : Nat, rr = (j : Int) ∧ j < (upTo g m).length := ⟨rr.toNat, by omega, by omega⟩
        obtain ⟨k, hk⟩ : ∃ k, (upN g m)[j]? = some k := ⟨_, List.getElem?_eq_getElem (by omega)⟩
        have hx : (upTo g m)[j]? = some (.int (k : Nat)) := by rw [upTo_upN, List.getElem?_map, hk]; rfl
        have eD : (upd H3 p (.lst [.int a, .int b, .int c])) D = some (.lst (upTo g m)) := (upd_ne Dp).trans e3
        refine ⟨D, _, _, _, rfl, rfl, SqL.of eD, atI_nat (j := j) hx, ?_⟩
        exact ⟨_, _, go k (List.mem_of_getElem? hk) a b c, fun _ H5 z => ⟨_, _, rfl, z⟩, fun _ _ _ z => z⟩
    · rintro σ H1 ⟨q3, q4, rfl, iv⟩
      exact done H1 iv
end
end TW
namespace TW
open PySem PySem.Spec PyProof.Rows L2
abbrev s_turns : Stmt := inClass (top 52) 4
abbrev s_steps : Stmt := inClass (top 52) 5
theorem yesI {σ : L2.St} {H : Hp} {k : Bool → Hp → Prop} (h : k true H) : tYes σ H k := h
/-- a step of a run: three things in a tuple -/
def Three (K : PySem.W.Frag) (H : Hp) (x a : V) : Prop := ∃ t b c, x = .ref t ∧ SqT K H t [a, b, c]
def spTurns (K : PySem.W.Frag) (CR CT CP : Addr) : Sp := fun vs H Q _ => ∃ (r : Addr) (R : RS) (ts : List V), vs = [.ref r] ∧ RunAt K CR CT CP H r R ∧ R.done.length ≤ 1000 ∧ ts.length = R.done.length ∧ (∀ (i : Nat) (x a : V), R.done[i]? = some x → ts[i]? = some a → Three K H x a) ∧ ∀ t H', Same H H' → SqT K H' t ts → Q (.ref t) H'
def spSteps (K : PySem.W.Frag) (CR CT CP : Addr) : Sp := fun vs H Q _ => ∃ (r : Addr) (R : RS), vs = [.ref r] ∧ RunAt K CR CT CP H r R ∧ ∀ l H', H l = none → Same H H' → H' l = some (.lst R.done) → Q (.ref l) H'
section
variable {P : Program} {w : World} {K : PySem.W.Frag} {mg : Str → Option Value} {base : Heap} {CR CT CP : Addr}
theorem sc_turns : FnScope ["self", "k", "wish", "answer"] ["self"] (defScope s_turns) := ⟨rfl, rfl, rfl, by decide +kernel, rfl, by decide +kernel, by decide +kernel⟩
theorem ok_turns {f : Addr} {fd : FuncData} (F : Fun K "turns" "Run.turns" s_turns f fd) (B : Blt mg) (X : RTxt K CR) : FnOk P w K mg base CX0 1 f fd ["self"] (spTurns K CR CT CP) := by
  refine F.ok sc_turns (fun vs H Q E h => ?_) (fun cdv A outer s H vs Q E hr h => ?_)
  · obtain ⟨r, R, ts, rfl, _⟩ := h
    rfl
  · obtain ⟨r, R, ts, rfl, hR, few, lt, each, hq⟩ := h
    refine ⟨_, pss_one (ps_ret (pe_callTy call_tupU (by rfl) B.tuple (by decide +kernel) (pa_cons (pe_lc (own := [("k", 1), ("wish", 2), ("answer", 3)]) rfl sc_turns.nd (pi_list (pe_fld (pv 0) rfl)) (blkOk_by (N := ["self", "k", "wish", "answer"]) (sc := defScope s_turns) (by decide +kernel))
      (fun _ _ _ _ _ => pg_tupC (n := 3) rfl (pgs_cons (pg_name (i := 1) sc_turns.nd rfl (Or.inl rfl)) (pgs_cons (pg_name (i := 2) sc_turns.nd rfl (Or.inl rfl)) (pgs_cons (pg_name (i := 3) sc_turns.nd rfl (Or.inl rfl)) pgs_nil)))) (fun _ _ _ _ _ => pts_nil) (te := tVar 1) (fun _ _ _ _ _ => by exact pv 1)) pa_nil))), ?_⟩
    refine ⟨_, rfl, r, CR, R.dx, _, _, rfl, hR.ob, X.cl, X.done, rF_get3, R.dn, rfl, ⟨_, SqL.of hR.d⟩, fun D hD => ?_⟩
    refine lc_it (walk_list (K := K) (a := R.dn) (xs := R.done)) (fun i H' => Same H H' ∧ H' D = some (.lst (ts.take i))) ⟨same_new hD, upd_same⟩ (fun i H' _ p => SqL.of (p.1 _ _ hR.d)) (fun i x H1 H' hi p y => ?_) (fun H1 p => ?_)
    · obtain ⟨rfl, hx⟩ := y
      obtain ⟨a, ha⟩ : ∃ a, ts[i]? = some a := ⟨_, List.getElem?_eq_getElem (lt ▸ hi)⟩
      obtain ⟨t, b, c, rfl, ht⟩ := each i x a hx ha
      refine ⟨t, _, rfl, seqT_same p.1 ht, rfl, _, _, rfl, _, _, rfl, _, _, rfl, rfl, rfl, yesI (iteT ?_)⟩
      refine ⟨_, rfl, _, p.2, ?_, fun b o z => ?_, ?_⟩
      · rw [List.length_take]
        exact Nat.lt_of_lt_of_le (by omega : min i ts.length < 1001) (small_sz (n := 1001) (by decide))
      · rw [upd_ne (ne_of_none z hD)]
        exact p.1 b o z
      · rw [upd_same, List.take_add_one, ha]
        rfl
    · have z := p.2
      rw [← lt, List.take_length] at z
      exact ⟨D, ts, rfl, .inl (SqL.of z), fun t G s g => hq t G (p.1.trans s) g⟩
theorem sc_steps : FnScope ["self"] ["self"] (defScope s_steps) := ⟨rfl, rfl, rfl, by decide +kernel, rfl, by decide +kernel, by decide +kernel⟩
theorem ok_steps {f : Addr} {fd : FuncData} (F : Fun K "steps" "Run.steps" s_steps f fd) (B : Blt mg) (X : RTxt K CR) : FnOk P w K mg base CX0 1 f fd ["self"] (spSteps K CR CT CP) := by
  refine F.ok sc_steps (fun vs H Q E h => ?_) (fun cdv A outer s H vs Q E hr h => ?_)
  · obtain ⟨r, R, rfl, _⟩ := h
    rfl
  · obtain ⟨r, R, rfl, hR, hq⟩ := h
    refine ⟨_, pss_one (ps_ret (pe_callTy call_list_of (by rfl) B.list (by decide +kernel) (pa_cons (pe_fld (pv 0) rfl) pa_nil))), ?_⟩
    exact ⟨_, rfl, r, CR, R.dx, _, _, rfl, hR.ob, X.cl, X.done, rF_get3, R.dn, _, rfl, .inl (SqL.of hR.d), fun l hl => hq l _ hl (same_new hl) upd_same⟩
end
end TW
namespace TW
open PySem PySem.Spec PyProof.Rows L2
/-- the things that a shop has where none are handed in -/
def shopKw (t0 : Addr) : List (Str × V) := [("cells", .non), ("locks", .ref t0), ("belts", .non), ("longest", .int 24), ("most", .int 400)]
abbrev psSI : List Str := ["self", "works", "cells", "locks", "belts", "longest", "most"]
abbrev FunSI (K : PySem.W.Frag) (t0 f : Addr) (fd : FuncData) : Prop := FunD K "__init__" "Shop.__init__" (defArgs sSI) (defBody sSI) (defScope sSI) [] (shopKw t0) f fd
section
variable {K : PySem.W.Frag} {t0 f : Addr} {fd : FuncData}
theorem kb_cells (F : FunSI K t0 f fd) : ∃ mv : List Value, KBn K fd psSI 2 ["cells"] (fun us ws => us ++ (ws ++ mv)) (fun vs zs => vs ++ (zs ++ [.ref t0, .non, .int 24, .int 400])) :=
  F.kbinds0 2 ["cells"] [("locks", .ref t0), ("belts", .non), ("longest", .int 24), ("most", .int 400)] (fun us mv ws => us ++ (ws ++ mv)) (by unfold shopKw; exact List.cons_ne_nil _ _) (fun q h => List.mem_cons_of_mem _ h) (fun a b c => a.append (c.append b))
    fun D doc pm an cdv ct us mv ws h1 h2 h3 => match us, mv, ws, h1, h2, h3 with
      | [_, _], [_, _, _, _], [_], _, _, _ => ⟨_, _, _, _, _, _, rfl, rfl, _, _, _, _, _, _, rfl, rfl, _, _, _, _, _, _, rfl, rfl, _, _, _, _, _, _, rfl, rfl, rfl⟩
theorem kb_locks (F : FunSI K t0 f fd) : ∃ mv : List Value, KBn K fd psSI 2 ["locks"] (fun us ws => us ++ (mv.take 1 ++ (ws ++ mv.drop 1))) (fun vs zs => vs ++ ([.non] ++ (zs ++ [.non, .int 24, .int 400]))) :=
  F.kbinds0 2 ["locks"] [("cells", .non), ("belts", .non), ("longest", .int 24), ("most", .int 400)] (fun us mv ws => us ++ (mv.take 1 ++ (ws ++ mv.drop 1))) (by unfold shopKw; exact List.cons_ne_nil _ _) (fun q h => by
      unfold shopKw
      rcases List.mem_cons.mp h with e | h
      · rw [e]; exact List.mem_cons_self ..
      · exact List.mem_cons_of_mem _ (List.mem_cons_of_mem _ h)) (fun a b c => a.append ((b.take 1).append (c.append (b.drop 1))))
    fun D doc pm an cdv ct us mv ws h1 h2 h3 => match us, mv, ws, h1, h2, h3 with
      | [_, _], [_, _, _, _], [_], _, _, _ => ⟨_, _, _, _, _, _, rfl, rfl, _, _, _, _, _, _, rfl, rfl, _, _, _, _, _, _, rfl, rfl, _, _, _, _, _, _, rfl, rfl, rfl⟩
theorem kb_none (F : FunSI K t0 f fd) : ∃ ds, Vals [.non, .ref t0, .non, .int 24, .int 400] ds ∧ Binds K fd psSI ds :=
  F.binds0 2 (by unfold shopKw; exact List.cons_ne_nil _ _) rfl fun D doc pm an cdv ct us ks h1 h2 => match us, ks, h1, h2 with
    | [_, _], [_, _, _, _, _], _, _ => ⟨_, _, _, _, _, _, rfl, rfl, _, _, _, _, _, _, rfl, rfl, _, _, _, _, _, _, rfl, rfl, _, _, _, _, _, _, rfl, rfl, _, _, _, _, _, _, rfl, rfl, rfl⟩
end
end TW
namespace TW
open PySem PySem.Spec PyProof.Rows L2 LamX
/-- each name has a cell of its own -/
theorem cf_inj : ∀ (names : List (Str × NameKind)) (n : Nat) (acc : List (Str × Addr)), (∀ x c, (x, c) ∈ acc → c < n) → (∀ x z c, (x, c) ∈ acc → (z, c) ∈ acc → x = z) → ∀ x z c, (x, c) ∈ cellsFrom n names acc → (z, c) ∈ cellsFrom n names acc → x = z
  | [], n, acc, _, h2, x, z, c, e1, e2 => h2 x z c e1 e2
  | (y, k) :: r, n, acc, h1, h2, x, z, c, e1, e2 => by
    unfold cellsFrom at e1 e2
    by_cases q : (k == .cell) = true
    · rw [if_pos q] at e1 e2
      refine cf_inj r (n + 1) ((y, n) :: acc) (fun x c h => ?_) (fun x z c a b => ?_) x z c e1 e2
      · rcases List.mem_cons.mp h with h | h
        · cases h
          exact Nat.lt_succ_self _
        · exact Nat.lt_succ_of_lt (h1 x c h)
      · rcases List.mem_cons.mp a with a | a
        · rcases List.mem_cons.mp b with b | b
          · cases a
            cases b
            rfl
          · cases a
            exact absurd (h1 z _ b) (Nat.lt_irrefl _)
        · rcases List.mem_cons.mp b with b | b
          · cases b
            exact absurd (h1 x _ a) (Nat.lt_irrefl _)
          · exact h2 x z c a b
    · rw [if_neg q] at e1 e2
      exact cf_inj r n acc h1 h2 x z c e1 e2
theorem cells_inj {names : List (Str × NameKind)} {n : Nat} : ∀ x z c, (cellsFrom n names []).lookup x = some c → (cellsFrom n names []).lookup z = some c → x = z := fun x z c e1 e2 =>
  cf_inj names n [] (fun x c h => (nomatch h)) (fun x z c h => (nomatch h)) x z c (PySem.mem_of_lookup e1) (PySem.mem_of_lookup e2)
end TW
namespace TW
open PySem PySem.Spec PyProof.Rows L2 LamX
theorem mk_shop {K : PySem.W.Frag} {CS : Addr} {n : Nat} {SI : SIn} {wv cv lv bv : V} {G2 : Hp} {x dx : Addr} {Q : VK} {E : XK} (Z : Good K G2 n SI wv cv lv bv) (h1 : G2 x = none) (h2 : G2 dx = none) (ne : dx ≠ x)
    (k : ∀ (wt cd lt bd : Addr) (G : Hp), Same G2 G → ShopAt K CS G x (SI.ss dx wt cd lt bd) → Q .non G) :
    spSI K CS n (.ref x :: [wv, cv, lv, bv, .int SI.lo, .int SI.mo]) (upd (upd G2 dx (.own x)) x (.ins CS dx [])) Q E := by
  have s1 : Same G2 (upd (upd G2 dx (.own x)) x (.ins CS dx [])) := fun b o e => by
    rw [upd_ne (ne_of_none e h1), upd_ne (ne_of_none e h2)]
    exact e
  refine ⟨x, dx, SI, wv, cv, lv, bv, rfl, upd_same, ?_, fun wt cd lt bd G f A => k wt cd lt bd G (fun b o e => f b o (ne_of_none e h1) (s1 b o e)) A⟩
  exact { Z with
    w := by
      obtain ⟨a, e1, h⟩ := Z.w
      exact ⟨a, e1, h.imp (fun z => s1.seq z) (fun z => seqT_same s1 z)⟩
    c := Z.c.imp (fun z => z) (fun ⟨a, e1, h⟩ => ⟨a, e1, h.elim (fun h => .inl (s1 _ _ h)) fun ⟨o, h⟩ => .inr ⟨o, s1 _ _ h⟩⟩)
    l := by
      obtain ⟨a, e1, h⟩ := Z.l
      exact ⟨a, e1, h.imp (fun z => s1.seq z) (fun z => seqT_same s1 z)⟩
    b := Z.b.imp (fun z => z) (fun ⟨a, e1, h⟩ => ⟨a, e1, h.elim (fun h => .inl (s1 _ _ h)) fun ⟨o, h⟩ => .inr ⟨o, s1 _ _ h⟩⟩)
    cv := fun kv h H2 tk => Z.cv kv h H2 fun a xs q => tk a xs (seqT_same s1 q) }
theorem extN_tk {K : PySem.W.Frag} {H H' : Hp} (e : ExtN H H') : TK K H H' := fun a xs q => by
  rcases q with (q | ⟨o, q⟩) | q
  · exact .inl (.inl (e _ _ q fun _ z => (nomatch z)))
  · exact .inl (.inr ⟨o, e _ _ q fun _ z => (nomatch z)⟩)
  · exact .inr q
theorem tabs_lst {T : List (Addr × Str)} {H : Hp} {p : Addr} {xs ys : List V} (hp : H p = some (.lst xs)) (h : LamX.Tabs T H) : LamX.Tabs T (upd H p (.lst ys)) := fun z hz => by
  obtain ⟨ps, h1, h2, h3⟩ := h z hz
  refine ⟨ps, (upd_ne (ne_of h1 hp (by intro z; cases z))).trans h1, h2, fun pos cv e => ?_⟩
  obtain ⟨c, e1, e2⟩ := h3 pos cv e
  exact ⟨c, e1, (upd_ne (ne_of e2 hp (by intro z; cases z))).trans e2⟩
theorem tabs_same {T : List (Addr × Str)} {H H' : Hp} (e : Same H H') (h : LamX.Tabs T H) : LamX.Tabs T H' := fun z hz => (h z hz).ext e
/-- whether values are the same, as the law tells it -/
theorem sm_ex (K : PySem.W.Frag) (H : Hp) : ∃ sm : V → V → Bool, SmOk K H sm := by
  classical
  refine ⟨fun v x => if h : PV K H v ∧ PV K H x then sameD h.1.choose h.2.choose else false, fun v x pv px => ?_⟩
  exact ⟨pv.choose, px.choose, pv.choose_spec, px.choose_spec, dif_pos ⟨pv, px⟩⟩
theorem kb_five {K : PySem.W.Frag} {t0 f : Addr} {fd : FuncData} (F : FunSI K t0 f fd) : KBn K fd psSI 2 ["cells", "locks", "belts", "longest", "most"] (fun us ws => us ++ ws) (fun vs zs => vs ++ zs) := by
  obtain ⟨mv, h⟩ := F.kbinds0 (ps := psSI) 2 ["cells", "locks", "belts", "longest", "most"] [] (fun us mv ws => us ++ ws) (by unfold shopKw; exact List.cons_ne_nil _ _) (fun q h => (nomatch h)) (fun a b c => a.append c)
    fun D doc pm an cdv ct us mv ws h1 h2 h3 => match us, mv, ws, h1, h2, h3 with
      | [_, _], [], [_, _, _, _, _], _, _, _ => rfl
  exact h
abbrev kwBes : List (PySem.Str × V) := [("longest", .int 24), ("most", .int 400)]
end TW
namespace L2
open PySem PySem.Spec PyProof.Rows
def rIsTrue : R2 := fun x y H Q => y = .bl true ∧ Q (.bl (decide (x = .bl true))) H
/-- x is True, whatever x is -/
theorem op_isTrue {X : Cx} : OpR X (compareOp .Is) rIsTrue := by
  intro pins s σ H x y v u Q I rx ry h
  obtain ⟨rfl, q⟩ := h
  cases (show u = Value.bool true from ry)
  cases x
  case bl b =>
    cases (show v = Value.bool b from rx)
    cases b with
    | true => exact wpAny_is_self rfl ⟨.bl true, H, I, rfl, by rw [decide_eq_true rfl] at q; exact q⟩
    | false => exact wpAny_is_other rfl (fun z => nomatch z) ⟨.bl false, H, I, rfl, by rw [decide_eq_false (fun z => by injection z with z; cases z)] at q; exact q⟩
  all_goals first
    | (cases rx; exact wpAny_is_other rfl (fun z => nomatch z) ⟨.bl false, H, I, rfl, by rw [decide_eq_false (fun z => nomatch z)] at q; exact q⟩)
    | (obtain ⟨t, rfl⟩ := rx; exact wpAny_is_other rfl (fun z => nomatch z) ⟨.bl false, H, I, rfl, by rw [decide_eq_false (fun z => nomatch z)] at q; exact q⟩)
end L2
namespace L2
open PySem PySem.Spec PyProof.Rows
/-- None in a tuple of data -/
theorem op_inNone {X : Cx} (hu : X.A.units + 1 < cLine) : OpR X (compareOp .In) (fun x y H Q => ∃ ds, x = .non ∧ Dp X.K H y (.tuple ds) ∧ PyData.canLayAll0 ds = true ∧ Q (.bl (ds.any fun z => PyData.eqv z .none)) H) := by
  intro pins s σ H x y v u Q I rx ry h
  obtain ⟨ds, ex, he, se, q⟩ := h
  obtain ⟨as, r1⟩ := Dp.reads I .none x v (by rw [ex]; exact .non) rx
  obtain ⟨bs, r2⟩ := Dp.reads I (.tuple ds) y u he ry
  refine SeqAt.in_tuple_reads r2 r1 se rfl ?_ ⟨.bl _, H, I, rfl, q⟩
  show X.A.units + 1 + min (PyData.depthAll ds) 0 < cLine
  rw [Nat.min_zero]
  exact hu
end L2
namespace TW
open PySem PySem.Spec PyProof.Rows L2
abbrev s_stands : Stmt := inClass (top 52) 13
def spStands (K : PySem.W.Frag) (CR CT CP : Addr) (Rel : Hp → V → V → Bool → Prop) : Sp := fun vs H Q _ => ∃ (r : Addr) (R : RS) (f : Nat → Bool) (ds : List PyData), vs = [.ref r] ∧ RunAt K CR CT CP H r R ∧ R.places.length ≤ 1000 ∧ (∀ (i : Nat) y, R.places[i]? = some y → CanGo K Rel H R.T y.pend (f i)) ∧ DpAll K H (R.places.map PS.fin) ds ∧ PyData.canLayAll0 ds = true ∧ (∀ H', Same H H' → DpAll K H' (R.places.map PS.fin) ds) ∧
  ∀ H', Same H H' → Q (.bl ((upTo f R.places.length).isEmpty && ds.any fun z => PyData.eqv z .none)) H'
section
variable {P : Program} {w : World} {K : PySem.W.Frag} {mg : Str → Option Value} {base : Heap} {CR CT CP CW : Addr} {n : Nat}
theorem sc_stands : FnScope ["self"] ["self"] (defScope s_stands) := ⟨rfl, rfl, rfl, by decide +kernel, rfl, by decide +kernel, by decide +kernel⟩
theorem ok_stands {f fO fE : Addr} {fd fdO fdE : FuncData} {Rel : Hp → V → V → Bool → Prop} (F : Fun K "stands" "Run.stands" s_stands f fd) (X : RTxt K CR) (GO : FnOk P w K mg base CX0 (n + 5) fO fdO ["self"] (spOver K CR CT CP Rel)) (hO : Meth K CR "is_over" fO) (bO : Binds K fdO ["self"] [])
    (GE : FnOk P w K mg base CX0 1 fE fdE ["self"] (spEnds K CR CT CP)) (hE : Meth K CR "ends" fE) (bE : Binds K fdE ["self"] []) : FnOk P w K mg base CX0 (n + 6) f fd ["self"] (spStands K CR CT CP Rel) := by
  refine F.ok sc_stands (fun vs H Q E h => ?_) (fun cdv A outer s H vs Q E hr h => ?_)
  · obtain ⟨r, R, g, ds, rfl, _⟩ := h
    rfl
  · obtain ⟨r, R, g, ds, rfl, hR, few, hC, _, lay, da, k⟩ := h
    have hr1 : Room 1 _ := hr.mono (by omega)
    refine ⟨_, pss_one (ps_ret (pe_and (pe_meth0 (pv 0) X.cl hO GO hr bO .nil pass0) (pe_one (pe_cmpR (op_inNone (hu_of hr)) pe_non (pe_meth0 (pv 0) X.cl hE GE hr1 bE .nil pass0) (by rfl))))), ?_⟩
    refine ⟨_, rfl, r, R.dx, _, rfl, hR.ob, rF_no (by decide +kernel) (by decide +kernel) (by decide +kernel) (by decide +kernel), r, R, g, rfl, hR, few, hC, fun H1 s1 => ⟨_, rfl, ?_⟩⟩
    have R1 := hR.same s1
    cases e : (upTo g R.places.length).isEmpty with
    | false =>
      rw [e] at k
      exact iteF (k _ s1)
    | true =>
      rw [e] at k
      refine iteT ?_
      refine ⟨_, rfl, r, R.dx, _, rfl, R1.ob, rF_no (by decide +kernel) (by decide +kernel) (by decide +kernel) (by decide +kernel), r, R, rfl, R1, few, fun te H2 hte s2 e2 => ?_⟩
      exact ⟨ds, rfl, .tup (SqT.of e2) (da _ (s1.trans s2)), lay, k _ (s1.trans s2)⟩
end
end TW
namespace TW
open PySem PySem.Spec PyProof.Rows L2 LamX
section
variable {P : Program} {w : World} {K : PySem.W.Frag} {mg : Str → Option Value} {base : Heap} {C CS CH : Addr} {kw : Nat} {f c' : Addr} {qn : Str} {params : Arguments} {body : Expr} {scope : Scope} {cl : List (Str × Addr)} {y : Str} {S0 : SS} {me : Nat}
theorem seq_same {H H' : Hp} {a : Addr} {xs : List V} (s : Same H H') (h : SqL K H a xs) : SqL K H' a xs := s.seq h
theorem work_count {tl : Addr} {idx t : Nat} {ts : List V} {HH : Hp} {J : Hp → Prop} (Z : CloAt base f c' qn params body scope cl y ["_law_times"] [.ref tl])
    (hbody : ∀ (A : Around) (outer : List Env) (s : Shared) (H : Hp) (E : XK), Room kw (A.deeper (cloEnv qn scope s.heap.objs.size f c' cl)) → PE (cloCx P w K mg base A outer s H E qn scope f c' cl (y :: ["_law_times"])) body (tCall (spCount K C CS CH) [] E (tCons (tOp (rIxL K) (tVar 1) (tC (.int (idx : Nat)))) (tCons (tVar 0) tNil))))
    (hJ : ∀ H, J H → SqL K H tl ts) (ht : ts[idx]? = some (.int (t : Nat))) (t100 : t ≤ 100) (hn : ("n" : Str) ∈ S0.cellN) :
    WorkJ P w K mg base C CS CH (kw + 1) 3 S0 f me J AdC (BStop K (cntF t)) := by
  have hat : PySem.W.FnAt f base := by
    obtain ⟨pm, ctv, e⟩ := Z.fn
    exact ⟨_, _, _, _, e⟩
  refine ⟨_, fnR_clo (tb := fun E => tCall (spCount K C CS CH) [] E (tCons (tOp (rIxL K) (tVar 1) (tC (.int (idx : Nat)))) (tCons (tVar 0) tNil))) Z hbody, hat, fun sh an ans hd dx md wl HA G hS hJ0 hB3 adm hG => ?_⟩
  refine ⟨_, _, ⟨.ref hd, rfl, _, rfl, tl, ts, (idx : Nat), _, rfl, rfl, ?_, atI_nat (j := idx) ht, _, rfl, t, hd, dx, md, wl, sh, an, me, ans, S0, HA, rfl, t100, hG, hS, hB3, hn, adm, fun H2 h2 A k3 hh bn => ⟨rfl, h2, A, k3, hh, bn⟩, fun H2 h2 v A k3 hf ep vn est => ⟨h2, A, k3, .inr ⟨hf, vn, fun H3 t s3 ht => ?_⟩⟩⟩, fun _ _ q => q, fun _ _ _ e => e⟩
  · have s : Same HA G := fun b o e => (hB3 b o e).2.2.2
    exact s.seq (hJ HA hJ0)
  · unfold BStop
    rw [est]
    exact ⟨rfl, ep, t, rfl, SqT.of ht⟩
theorem work_hand {vl : Addr} {vals : List V} {HH : Hp} {J : Hp → Prop} (Z : CloAt base f c' qn params body scope cl y ["_law_values"] [.ref vl])
    (hbody : ∀ (A : Around) (outer : List Env) (s : Shared) (H : Hp) (E : XK), Room kw (A.deeper (cloEnv qn scope s.heap.objs.size f c' cl)) → PE (cloCx P w K mg base A outer s H E qn scope f c' cl (y :: ["_law_values"])) body (tCall (spHanding K C CS CH) [] E (tCons (tVar 1) (tCons (tVar 0) tNil))))
    (hJ : ∀ H, J H → SqL K H vl vals ∧ TK K HH H) (lv : vals.length ≤ 800) (pvs : ∀ v ∈ vals, PV K HH v) (hb : ("b" : Str) ∈ S0.beltN) :
    WorkJ P w K mg base C CS CH (kw + 1) 3 S0 f me J (fun ans => ans.length ≤ 900) (BStop K (layF vals)) := by
  have hat : PySem.W.FnAt f base := by
    obtain ⟨pm, ctv, e⟩ := Z.fn
    exact ⟨_, _, _, _, e⟩
  refine ⟨_, fnR_clo (tb := fun E => tCall (spHanding K C CS CH) [] E (tCons (tVar 1) (tCons (tVar 0) tNil))) Z hbody, hat, fun sh an ans hd dx md wl HA G hS hJ0 hB3 adm hG => ?_⟩
  obtain ⟨j1, j2⟩ := hJ HA hJ0
  refine ⟨_, _, ⟨.ref hd, rfl, _, rfl, _, rfl, vl, hd, dx, md, wl, sh, an, vals, me, ans, S0, HA, rfl, j1, lv, fun v m => (pvs v m).tk j2, hG, hS, hB3, hb, adm, fun H2 h2 A k3 hh bn => ⟨rfl, h2, A, k3, hh, bn⟩, fun H2 h2 v A k3 hf ep vn est => ⟨h2, A, k3, .inr ⟨hf, vn, fun H3 t s3 ht => ?_⟩⟩⟩, fun _ _ q => q, fun _ _ _ e => e⟩
  unfold BStop
  rw [est]
  exact ⟨rfl, ep, t, rfl, SqT.of ht⟩
theorem work_get {g : Addr} {fd : FuncData} {HH : Hp} {J : Hp → Prop} (G : FnOk P w K mg base (L2.CX P w) kw g fd ["_law_hand"] (spGetting K C CS CH)) (b : Binds K fd ["_law_hand"] []) (hA : PySem.W.FnAt g base) (hJ : ∀ H, J H → TK K HH H) (hb : ("b" : Str) ∈ S0.beltN) (hl : ("l" : Str) ∈ S0.locks) :
    WorkJ P w K mg base C CS CH kw 3 S0 g me J (fun ans => ans.length ≤ 900 ∧ ∀ a ∈ ans, PV K HH a) (BStop K getF) := by
  refine ⟨_, fnR_of G b, hA, fun sh an ans hd dx md wl HA G0 hS hJ0 hB3 ⟨few, all⟩ hG => ⟨_, _, ⟨hd, dx, md, wl, sh, an, me, ans, S0, HA, rfl, hG, hS, hB3, hb, hl, few, fun a m => (all a m).tk (hJ HA hJ0), fun H2 h2 A k3 hh bn => ⟨rfl, h2, A, k3, hh, bn⟩, fun H2 h2 v A k3 hf ep vn est => ⟨h2, A, k3, .inr ⟨hf, vn, fun H3 t s3 ht => ?_⟩⟩⟩, fun _ _ q => q, fun _ _ _ e => e⟩⟩
  unfold BStop
  rw [est]
  exact ⟨rfl, ep, t, rfl, SqT.of ht⟩
/-- more room does no harm -/
theorem WorkJ.room {k k2 : Nat} {g : Addr} {J : Hp → Prop} {Ad : List V → Prop} {Bh : Beh} (h : WorkJ P w K mg base C CS CH k 3 S0 g me J Ad Bh) (le : k ≤ k2) : WorkJ P w K mg base C CS CH k2 3 S0 g me J Ad Bh := by
  obtain ⟨s1, F, a, r⟩ := h
  refine ⟨s1, ?_, a, r⟩
  intro A outer s H us vs Q E hr
  exact F A outer s H us vs Q E (hr.mono le)
end
end TW
namespace TW
open PySem PySem.Spec PyProof.Rows L2 LamX
structure FunC (K : PySem.W.Frag) (x qual : Str) (st : Stmt) (f : Addr) (fd : FuncData) (c : Addr) : Prop where
  ex : ∃ (oc : Value) (od : Option Addr) (kV doc pm : Value) (an : Option Addr) (ct : Value) (osl : Array (Option Value)),
    fd = PySem.W.fnOf x qual (defArgs st) (defBody st) (defScope st) .none kV doc pm an (.ref c) ct ∧ K.lookup f = some ⟨oc, od, .func fd, osl⟩ ∧ PySem.W.codeIn K (.ref c) qual = true
  kp : PySem.W.keepIn K (.ref f) = true
end TW
namespace TW
open PySem PySem.Spec PyProof.Rows L2 LamX
section
variable {P : Program} {w : World} {K : PySem.W.Frag} {mg : Str → Option Value} {base : Heap}
theorem FunC.does {x qual : Str} {st : Stmt} {f c : Addr} {fd : FuncData} {N ps : List Str} {k : Nat} {sp : Sp} (F : FunC K x qual st f fd c) (S : FnScope N ps (defScope st)) (len : ∀ vs H Q E, sp vs H Q E → vs.length = ps.length)
    (walk : ∀ (A : Around) (outer : List Env) (s : Shared) (H : Hp) (vs : List V) (Q : VK) (E : XK), Room k (A.deeper (envOfC qual (defScope st) s.heap.objs.size f (.ref c))) → sp vs H Q E →
      ∃ t, PSs (cxOf CX0 P w K mg base N qual (defScope st) f (.ref c) A outer s H E).nox (defBody st) t ∧ t { nx := fun _ H' => Q .non H', rt := Q } (L2.start N vs) H) : FnOk P w K mg base CX0 (k + 1) f fd ps sp := by
  obtain ⟨oc, od, kV, doc, pm, an, ct, osl, rfl, there, hcd⟩ := F.ex
  exact fn_of there hcd S len fun A outer s H vs Q E hr hsp => (walk A outer s H vs Q E hr hsp).imp fun t z => ⟨z.1.nox, z.2⟩
end
end TW
namespace TW
open PySem PySem.Spec PyProof.Rows L2 LamX
structure Frm (B : Addr → Prop) (H H' : Hp) : Prop where
  l : ∀ b o, ¬ B b → H b = some o → H' b = some o
  d : DK H H'
theorem Frm.of {B : Addr → Prop} {H H' : Hp} (e : Same H H') : Frm B H H' := ⟨fun b o _ h => e b o h, .of e⟩
theorem Frm.trans {B : Addr → Prop} {H H1 H2 : Hp} (a : Frm B H H1) (b : Frm B H1 H2) : Frm B H H2 := ⟨fun c o n e => b.l c o n (a.l c o n e), a.d.trans b.d⟩
theorem Frm.tk {B : Addr → Prop} {K : PySem.W.Frag} {H H' : Hp} (e : Frm B H H') : TK K H H' := e.d.tk
/-- all but p stands, and p is three numbers -/
structure PutP (p : Addr) (H H' : Hp) : Prop where
  k : ∀ b o, b ≠ p → H b = some o → H' b = some o
  p : ∃ x y z : Int, H' p = some (.lst [.int x, .int y, .int z])
theorem PutP.trans {p : Addr} {H H1 H2 : Hp} (a : PutP p H H1) (b : PutP p H1 H2) : PutP p H H2 := ⟨fun c o n e => b.k c o n (a.k c o n e), b.p⟩
theorem PutP.same {p : Addr} {H H' : Hp} (e : Same H H') (h : ∃ x y z : Int, H p = some (.lst [.int x, .int y, .int z])) : PutP p H H' := ⟨fun b o _ q => e b o q, let ⟨x, y, z, q⟩ := h; ⟨x, y, z, e _ _ q⟩⟩
theorem PutP.put {p : Addr} {H : Hp} {x y z : Int} : PutP p H (upd H p (.lst [.int x, .int y, .int z])) := ⟨fun b o n e => (upd_ne n).trans e, x, y, z, upd_same⟩
theorem PutP.frm {p : Addr} {H H' : Hp} {B : Addr → Prop} (a : PutP p H H') (hp : ∃ x y z : Int, H p = some (.lst [.int x, .int y, .int z])) (hB : B p) : Frm B H H' :=
  ⟨fun b o n e => a.k b o (fun z => n (z ▸ hB)) e, fun b o e n m => a.k b o (fun z => by
    obtain ⟨x, y, w, q⟩ := hp
    rw [z, q] at e
    exact n _ (Option.some.inj e).symm) e⟩
theorem PutP.tk {p : Addr} {K : PySem.W.Frag} {H H' : Hp} (a : PutP p H H') (hp : ∃ x y z : Int, H p = some (.lst [.int x, .int y, .int z])) : TK K H H' := (a.frm (B := fun b => b = p) hp rfl).tk
/-- the three numbers that draws come from -/
def Num3 (p : Addr) (H : Hp) : Prop := ∃ x y z : Int, H p = some (.lst [.int x, .int y, .int z])
section
variable {K : PySem.W.Frag} {H0 H : Hp} {N : Nms} {sm : V → V → Bool}
theorem Tw.mono {n : Nat} {x y : V} (h : Tw K H n x y) : Tw K H (n + 1) x y := by
  induction h with
  | non n => exact .non _
  | bl n b => exact .bl _ b
  | int n i => exact .int _ i
  | str n x => exact .str _ x
  | lst ha hb hl few _ ih => exact .lst ha hb hl few fun i x y h1 h2 => ih i x y h1 h2
  | tup ha hb hl few _ ih => exact .tup ha hb hl few fun i x y h1 h2 => ih i x y h1 h2
theorem Tw.le {n m : Nat} {x y : V} (h : Tw K H n x y) (l : n ≤ m) : Tw K H m x y := by
  induction l with
  | refl => exact h
  | step _ ih => exact ih.mono
theorem PV.tw (t : TK K H0 H) {v : V} (h : PV K H0 v) : Tw K H 3 v v := by
  obtain ⟨d, q⟩ := h
  have q := q.tk t
  exact q.tw q
/-- a wish that need not wait is done -/
theorem do_ex {S : Sto} {kind nm : Str} {args : List V} {k : Int} (so : StoOk K H N S) (wo : WishOk N kind nm args) (go : letsM sm S kind nm args = true) :
    ∃ a S', DoM sm S (.int k) nm kind args a S' ∧ (kind = "reach" → ∃ c, a = .bl c) ∧ ∀ b, (S'.bc b).length ≤ (S.bc b).length + 1 := by
  have le : ∀ b, (S.bc b).length ≤ (S.bc b).length + 1 := fun b => Nat.le_succ _
  have nr : ∀ {x : Str} {a : V}, x ≠ "reach" → (x = "reach" → ∃ c, a = .bl c) := fun n e => absurd e n
  rcases wo with ⟨rfl, rfl⟩ | ⟨rfl, _, rfl⟩ | ⟨rfl, _, x, rfl⟩ | ⟨rfl, _, x, rfl⟩ | ⟨rfl, _, x, y, rfl⟩ | ⟨rfl, _, x, rfl⟩ | ⟨rfl, _, rfl⟩ | ⟨rfl, _, rfl⟩ | ⟨rfl, _, rfl⟩ | ⟨rfl, _, x, rfl⟩ | ⟨rfl, _, rfl⟩
  · exact ⟨_, _, .rest, nr (by decide +kernel), le⟩
  · exact ⟨_, _, .look, nr (by decide +kernel), le⟩
  · exact ⟨_, _, .put, nr (by decide +kernel), le⟩
  · exact ⟨_, _, .swap, nr (by decide +kernel), le⟩
  · cases c : sm (valD S.cells nm) x with
    | true => exact ⟨_, _, .tradeY c, nr (by decide +kernel), le⟩
    | false => exact ⟨_, _, .tradeN c, nr (by decide +kernel), le⟩
  · exact ⟨_, _, .until_, nr (by decide +kernel), le⟩
  · exact ⟨_, _, .take, nr (by decide +kernel), le⟩
  · exact ⟨_, _, .give, nr (by decide +kernel), le⟩
  · cases c : isNon (valD S.holders nm) with
    | true => exact ⟨_, _, .reachY c, fun _ => ⟨_, rfl⟩, le⟩
    | false => exact ⟨_, _, .reachN c, fun _ => ⟨_, rfl⟩, le⟩
  · refine ⟨_, _, .lay, nr (by decide +kernel), fun b => ?_⟩
    show (setB S.bc nm (S.bc nm ++ [x]) b).length ≤ _
    unfold setB
    split
    · rename_i e
      rw [e, List.length_append]
      exact Nat.le_refl _
    · exact le b
  · rw [show letsM sm S "fetch" nm [] = !(S.bc nm).isEmpty from (if_neg (by decide +kernel)).trans ((if_neg (by decide +kernel)).trans ((if_neg (by decide +kernel)).trans (if_pos rfl)))] at go
    cases hc : S.bc nm with
    | nil =>
      rw [hc] at go
      cases go
    | cons x l =>
      refine ⟨x, _, .fetch hc, nr (by decide +kernel), fun b => ?_⟩
      show (setB S.bc nm l b).length ≤ _
      unfold setB
      split
      · rename_i e
        rw [e, hc, List.length_cons]
        omega
      · exact le b
end
end TW
namespace TW
open PySem PySem.Spec PyProof.Rows L2 LamX
abbrev NL19 : Nms := ⟨["n"], ["l"], ["b"]⟩
abbrev fs19 (t0 t1 : Nat) (vals : List V) : List StF := [cntF t0, cntF t1, layF vals, getF]
/-- answers that each of the works may be given -/
def AdW (K : PySem.W.Frag) (HH : Hp) : Nat → List V → Prop
  | 0 => AdC
  | 1 => AdC
  | 2 => fun ans => ans.length ≤ 900
  | _ => fun ans => ans.length ≤ 900 ∧ ∀ a ∈ ans, PV K HH a
/-- a long run under way -/
structure LG (K : PySem.W.Frag) (sm : V → V → Bool) (CR CT CP : Addr) (sh : Addr) (HH : Hp) (r pls dns : Addr) (t0 t1 : Nat) (vals : List V) (size : V) (H : Hp) (R : RS) (S1 : Sto) (a0 a1 a2 a3 : List V) (steps : StepL) : Prop where
  run : RunG K sm CR CT CP (fs19 t0 t1 vals) sh H r R S1 [a0, a1, a2, a3] steps
  li : ∃ l0 r0 l1 r1 p0 p1 q said f, LI t0 t1 vals size S1 a0 a1 a2 a3 steps l0 r0 l1 r1 p0 p1 q said f
  so : StoOk K HH NL19 S1
  pv : ∀ a ∈ a3, PV K HH a
  epl : R.pl = pls
  edn : R.dn = dns
  hd : ∀ s ∈ steps, ∃ kind rest, s.2.1 = .str kind :: rest
section
variable {K : PySem.W.Frag} {sm : V → V → Bool} {CR CT CP sh r pls dns : Addr} {HH H H' : Hp} {t0 t1 : Nat} {vals : List V} {size : V} {R : RS} {S1 : Sto} {a0 a1 a2 a3 : List V} {steps : StepL}
theorem LI.bound {l0 r0 l1 r1 : Nat} {p0 p1 q said : List V} {f : Nat} (h : LI t0 t1 vals size S1 a0 a1 a2 a3 steps l0 r0 l1 r1 p0 p1 q said f) (b0 : t0 ≤ 8) (b1 : t1 ≤ 8) (bv : vals.length ≤ 9) : steps.length ≤ 110 := by
  have hm := h.m
  have h1 : p0.length ≤ 1 := by
    rcases h.c0.ph with e | ⟨z, e⟩
    · rw [e]; exact Nat.zero_le _
    · rw [e]; exact Nat.le_refl 1
  have h2 : p1.length ≤ 1 := by
    rcases h.c1.ph with e | ⟨z, e⟩
    · rw [e]; exact Nat.zero_le _
    · rw [e]; exact Nat.le_refl 1
  omega
theorem cnt_wish {t l rr : Nat} {p ans : List V} (c : CInv t l rr p ans) {kind nm : Str} {args : List V} (e : (cntF t ans).1 = .wish kind nm args) : WishOk NL19 kind nm args ∧ ∀ a ∈ args, PV K HH a := by
  rw [c.stand] at e
  have e : cntS p l rr = .wish kind nm args := e
  have lz : l ≠ 0 := fun z => by
    rw [z, cntS_zero] at e
    cases e
  have mn : ("n" : Str) ∈ NL19.cells := List.mem_singleton.mpr rfl
  rcases c.ph with rfl | ⟨z, rfl⟩
  · rw [cntS_nil lz] at e
    injection e with e1 e2 e3
    subst e1 e2 e3
    exact ⟨.inr (.inl ⟨rfl, mn, rfl⟩), fun a h => (nomatch h)⟩
  · rw [cntS_one lz] at e
    injection e with e1 e2 e3
    subst e1 e2 e3
    refine ⟨.inr (.inr (.inr (.inr (.inl ⟨rfl, mn, _, _, rfl⟩)))), fun a h => ?_⟩
    rcases List.mem_cons.mp h with rfl | h
    · exact ⟨_, .int _ _⟩
    · rw [List.mem_singleton.mp h]
      exact ⟨_, .int _ _⟩
theorem LG.wishes (Z : LG K sm CR CT CP sh HH r pls dns t0 t1 vals size H R S1 a0 a1 a2 a3 steps) (pvs : ∀ v ∈ vals, PV K HH v) : ∀ (i : Nat) (F : StF) (ans : List V), (fs19 t0 t1 vals)[i]? = some F → ([a0, a1, a2, a3] : List (List V))[i]? = some ans → ∀ kind nm args, (F ans).1 = .wish kind nm args → WishOk NL19 kind nm args ∧ ∀ a ∈ args, PV K HH a := fun i F ans e1 e2 kind nm args e => by
  obtain ⟨l0, r0, l1, r1, p0, p1, q, said, f, li⟩ := Z.li
  have mb : ("b" : Str) ∈ NL19.belts := List.mem_singleton.mpr rfl
  have ml : ("l" : Str) ∈ NL19.locks := List.mem_singleton.mpr rfl
  match i, e1, e2 with
  | 0, e1, e2 =>
    cases e1
    cases e2
    exact cnt_wish li.c0 e
  | 1, e1, e2 =>
    cases e1
    cases e2
    exact cnt_wish li.c1 e
  | 2, e1, e2 =>
    cases e1
    cases e2
    have e : (if a2.length ≤ vals.length then Stop.wish "lay" "b" [(vals[a2.length]?).getD .non] else .told (.int (vals.length : Nat))) = .wish kind nm args := e
    by_cases c : a2.length ≤ vals.length
    · rw [if_pos c] at e
      injection e with e1 e2 e3
      subst e1 e2 e3
      refine ⟨.inr (.inr (.inr (.inr (.inr (.inr (.inr (.inr (.inr (.inl ⟨rfl, mb, _, rfl⟩))))))))), fun a h => ?_⟩
      rw [List.mem_singleton.mp h]
      cases q : vals[a2.length]? with
      | none => exact ⟨_, .non _⟩
      | some v => exact pvs v (List.mem_of_getElem? q)
    · rw [if_neg c] at e
      cases e
  | 3, e1, e2 =>
    cases e1
    cases e2
    rw [li.gi.stand] at e
    rcases li.gi.cs with ⟨rfl, _⟩ | ⟨v, g, rfl, _⟩ | ⟨v, x, g, rfl, _⟩
    · have e : Stop.wish "fetch" "b" [] = .wish kind nm args := e
      injection e with e1 e2 e3
      subst e1 e2 e3
      exact ⟨.inr (.inr (.inr (.inr (.inr (.inr (.inr (.inr (.inr (.inr ⟨rfl, mb, rfl⟩))))))))), fun a h => (nomatch h)⟩
    · by_cases c : v = .non
      · rw [c, getS_non] at e
        cases e
      · rw [getS_one c] at e
        have e : Stop.wish "take" "l" [] = .wish kind nm args := e
        injection e with e1 e2 e3
        subst e1 e2 e3
        exact ⟨.inr (.inr (.inr (.inr (.inr (.inr (.inl ⟨rfl, ml, rfl⟩)))))), fun a h => (nomatch h)⟩
    · by_cases c : v = .non
      · rw [c, getS_non] at e
        cases e
      · rw [getS_two c] at e
        have e : Stop.wish "give" "l" [] = .wish kind nm args := e
        injection e with e1 e2 e3
        subst e1 e2 e3
        exact ⟨.inr (.inr (.inr (.inr (.inr (.inr (.inr (.inl ⟨rfl, ml, rfl⟩))))))), fun a h => (nomatch h)⟩
end
theorem canS_wish {sm : V → V → Bool} {S : Sto} {F : StF} {ans : List V} (h : canS sm S F ans = true) : ∃ kind nm args, (F ans).1 = .wish kind nm args ∧ letsM sm S kind nm args = true := by
  unfold canS at h
  cases e : (F ans).1 with
  | wish kind nm args =>
    rw [e] at h
    exact ⟨kind, nm, args, rfl, h⟩
  | told v =>
    rw [e] at h
    cases h
  | failed v =>
    rw [e] at h
    cases h
section
variable {P : Program} {w : World} {K : PySem.W.Frag} {mg : Str → Option Value} {base : Heap} {C CS CP CH CV CR CT CW CC pS : Addr} {S : Addr → Option Sp} {kw : Nat} {sm : V → V → Bool} {sh r pls dns : Addr} {HH H H' : Hp} {t0 t1 : Nat} {vals : List V} {size : V} {R : RS} {S1 : Sto} {a0 a1 a2 a3 : List V} {steps : StepL}
theorem disj19 : Disj NL19 := ⟨fun nm m1 m2 => by rw [List.mem_singleton.mp m1] at m2; exact absurd (List.mem_singleton.mp m2) (by decide +kernel), fun nm m1 m2 => by rw [List.mem_singleton.mp m1] at m2; exact absurd (List.mem_singleton.mp m2) (by decide +kernel), fun nm m1 m2 => by rw [List.mem_singleton.mp m1] at m2; exact absurd (List.mem_singleton.mp m2) (by decide +kernel)⟩
theorem four {k : Nat} {F : StF} {ans : List V} (h1 : (fs19 t0 t1 vals)[k]? = some F) (h2 : ([a0, a1, a2, a3] : List (List V))[k]? = some ans) : (k = 0 ∧ cntF t0 = F ∧ a0 = ans) ∨ (k = 1 ∧ cntF t1 = F ∧ a1 = ans) ∨ (k = 2 ∧ layF vals = F ∧ a2 = ans) ∨ (k = 3 ∧ getF = F ∧ a3 = ans) := by
  match k, h1, h2 with
  | 0, h1, h2 => exact .inl ⟨rfl, Option.some.inj h1, Option.some.inj h2⟩
  | 1, h1, h2 => exact .inr (.inl ⟨rfl, Option.some.inj h1, Option.some.inj h2⟩)
  | 2, h1, h2 => exact .inr (.inr (.inl ⟨rfl, Option.some.inj h1, Option.some.inj h2⟩))
  | 3, h1, h2 => exact .inr (.inr (.inr ⟨rfl, Option.some.inj h1, Option.some.inj h2⟩))
  | n + 4, h1, h2 => cases h1
theorem go_long {S0 : SS} {J : Hp → Prop} {k : Nat} {Q : VK} {E : XK} (hx : PySem.W.exmOne K (.ref CH) (.ref CH) = some true) (Wk : WorksG P w K mg base C CS CH kw sm S0 (fs19 t0 t1 vals) J (AdW K HH)) (Js : JSt J) (SK : StepKs K w CT pS S) (hS : ShopAt K CS H sh S0) (hJ : J H) (tk : TK K HH H) (hsm : SmOk K HH sm)
    (Z : LG K sm CR CT CP sh HH r pls dns t0 t1 vals size H R S1 a0 a1 a2 a3 steps) (b0 : t0 ≤ 8) (b1 : t1 ≤ 8) (bv : vals.length ≤ 9) (nv : ∀ v ∈ vals, v ≠ .non) (pvs : ∀ v ∈ vals, PV K HH v) {F : StF} {ans : List V} (hF : (fs19 t0 t1 vals)[k]? = some F) (hans : ([a0, a1, a2, a3] : List (List V))[k]? = some ans) (can : canS sm S1 F ans = true)
    (cont : ∀ (a : V) (R' : RS) (H' : Hp) (S2 : Sto) (c0 c1 c2 c3 : List V) (s : Nat × List V × V), But3 r pls dns H H' → LG K sm CR CT CP sh HH r pls dns t0 t1 vals size H' R' S2 c0 c1 c2 c3 (steps ++ [s]) → Q a H') :
    spGo P w K CR CT CP CW CC pS S (RD K 3) (spCome P w K mg base C CS CP CH CV kw 3) [.ref r, .int (k : Nat)] H Q E := by
  obtain ⟨kind, nm, args, est, lt⟩ := canS_wish can
  obtain ⟨wo, pa⟩ := Z.wishes pvs k F ans hF hans kind nm args est
  obtain ⟨l0, r0, l1, r1, p0, p1, q, said, f, li⟩ := Z.li
  obtain ⟨a, S2, dm, _, ln⟩ := do_ex (k := ((k : Nat) : Int)) Z.so wo lt
  have bd := li.bound b0 b1 bv
  have hls := li.ls
  have lnS : ∀ b ∈ NL19.belts, (S1.bc b).length < 900 := fun b m => by
    rw [List.mem_singleton.mp m, li.bc, List.length_drop, List.length_take, List.length_append]
    show min a2.length (vals.length + 1) - f < 900
    omega
  obtain ⟨so2, pav⟩ := dm.ok Z.so wo pa lnS
  have smI := sm_int hsm
  have l1' : ([a] : List V).length = 1 := rfl
  have few : ans.length ≤ steps.length := by
    match k, hans with
    | 0, h => cases h; omega
    | 1, h => cases h; omega
    | 2, h => cases h; omega
    | 3, h => cases h; omega
  have both : AdW K HH k (ans ++ [a]) ∧ ∃ c0 c1 c2 c3, ([a0, a1, a2, a3] : List (List V)).set k (ans ++ [a]) = [c0, c1, c2, c3] ∧ (∀ x ∈ c3, PV K HH x) ∧ ∃ l0 r0 l1 r1 p0 p1 q said f, LI t0 t1 vals size S2 c0 c1 c2 c3 (steps ++ [(k, wishV kind nm args, a)]) l0 r0 l1 r1 p0 p1 q said f := by
    rcases four hF hans with ⟨rfl, rfl, rfl⟩ | ⟨rfl, rfl, rfl⟩ | ⟨rfl, rfl, rfl⟩ | ⟨rfl, rfl, rfl⟩
    · obtain ⟨l', r', p', li2⟩ := li.step0 smI est dm
      exact ⟨⟨by rw [List.length_append]; omega, li2.c0.ad⟩, _, _, _, _, rfl, Z.pv, _, _, _, _, _, _, _, _, _, li2⟩
    · obtain ⟨l', r', p', li2⟩ := li.step1 smI est dm
      exact ⟨⟨by rw [List.length_append]; omega, li2.c1.ad⟩, _, _, _, _, rfl, Z.pv, _, _, _, _, _, _, _, _, _, li2⟩
    · have li2 := li.step2 est dm
      exact ⟨by show (a2 ++ [a]).length ≤ 900; rw [List.length_append]; omega, _, _, _, _, rfl, Z.pv, _, _, _, _, _, _, _, _, _, li2⟩
    · obtain ⟨q', said', f', li2⟩ := li.step3 nv est dm
      have pv2 : ∀ x ∈ a3 ++ [a], PV K HH x := fun x h => by
        rcases List.mem_append.mp h with h | h
        · exact Z.pv x h
        · rw [List.mem_singleton.mp h]
          exact pav
      exact ⟨⟨by rw [List.length_append]; omega, pv2⟩, _, _, _, _, rfl, pv2, _, _, _, _, _, _, _, _, _, li2⟩
  obtain ⟨ad, c0, c1, c2, c3, ec, pc, lx⟩ := both
  refine go_st hx Wk Js SK hS hJ tk hsm disj19 Z.run hF hans est wo pa Z.so (by omega) lt dm ad (by omega) fun R' H' b3 e1 e2 RK => ?_
  rw [ec] at RK
  rw [Z.epl, Z.edn] at b3
  refine cont a R' H' S2 c0 c1 c2 c3 _ b3 ⟨RK, lx, so2, pc, e1.trans Z.epl, e2.trans Z.edn, fun s m => ?_⟩
  rcases List.mem_append.mp m with m | m
  · exact Z.hd s m
  · rw [List.mem_singleton.mp m]
    unfold wishV
    by_cases c : kind = "rest"
    · rw [if_pos c]
      exact ⟨_, _, rfl⟩
    · rw [if_neg c]
      exact ⟨_, _, rfl⟩
end
end TW
namespace TW
open PySem PySem.Spec PyProof.Rows L2 LamX
section
variable {K : PySem.W.Frag} {sm : V → V → Bool} {CR CT CP CS sh r pls dns p tl D : Addr} {HH H H' : Hp} {t0 t1 : Nat} {vals : List V} {size : V} {R : RS} {S1 : Sto} {S0 : SS} {a0 a1 a2 a3 : List V} {steps : StepL}
theorem LG.put (e : PutP p H H') (hp : Num3 p H) (nr : r ≠ p) (n1 : pls ≠ p) (n2 : dns ≠ p) (Z : LG K sm CR CT CP sh HH r pls dns t0 t1 vals size H R S1 a0 a1 a2 a3 steps) : LG K sm CR CT CP sh HH r pls dns t0 t1 vals size H' R S1 a0 a1 a2 a3 steps := by
  have F := e.frm (B := fun b => b = p) hp rfl
  refine { Z with run := Z.run.keep (p := p) e.k F.d nr (Z.epl ▸ n1) (Z.edn ▸ n2) ?_ }
  obtain ⟨x, y, z, q⟩ := hp
  exact ⟨_, q⟩
theorem LG.nx (e : ∀ b o, H b = some o → (∀ φ, o ≠ .ext φ) → H' b = some o) (Z : LG K sm CR CT CP sh HH r pls dns t0 t1 vals size H R S1 a0 a1 a2 a3 steps) : LG K sm CR CT CP sh HH r pls dns t0 t1 vals size H' R S1 a0 a1 a2 a3 steps := { Z with run := Z.run.nx e }
/-- what the run may change -/
abbrev BadL (p r pls dns : Addr) : Addr → Prop := fun b => b = p ∨ b = r ∨ b = pls ∨ b = dns
abbrev JL (K : PySem.W.Frag) (HH : Hp) (tl D : Addr) (ts vals : List V) : Hp → Prop := fun H => TK K HH H ∧ H tl = some (.lst ts) ∧ H D = some (.lst vals)
theorem jl_st {ts : List V} : JSt (JL K HH tl D ts vals) := fun G G' e ⟨h1, h2, h3⟩ => by
  refine ⟨h1.trans fun a xs q => ?_, e _ _ h2 fun _ _ _ z => (nomatch z), e _ _ h3 fun _ _ _ z => (nomatch z)⟩
  rcases q with (q | ⟨o, q⟩) | q
  · exact .inl (.inl (e _ _ q fun _ _ _ z => (nomatch z)))
  · exact .inl (.inr ⟨o, e _ _ q fun _ _ _ z => (nomatch z)⟩)
  · exact .inr q
theorem jl_frm {ts : List V} {B : Addr → Prop} (F : Frm B H H') (n1 : ¬ B tl) (n2 : ¬ B D) (h : JL K HH tl D ts vals H) : JL K HH tl D ts vals H' :=
  ⟨h.1.trans F.tk, F.l _ _ n1 h.2.1, F.l _ _ n2 h.2.2⟩
theorem shop_frm {B : Addr → Prop} (F : Frm B H H') (ns : ¬ B sh) (A : ShopAt K CS H sh S0) : ShopAt K CS H' sh S0 :=
  ⟨F.l _ _ ns A.ob, F.tk _ _ A.w, F.d _ _ A.c (fun _ z => (nomatch z)) (fun _ _ _ z => (nomatch z)), A.cn, F.tk _ _ A.l, F.d _ _ A.b (fun _ z => (nomatch z)) (fun _ _ _ z => (nomatch z)), A.bn⟩
/-- a turn of the run, from heap to heap -/
theorem frm_but (Z : LG K sm CR CT CP sh HH r pls dns t0 t1 vals size H R S1 a0 a1 a2 a3 steps) (b3 : But3 r pls dns H H') : Frm (BadL p r pls dns) H H' := by
  have R1 := Z.run.run.at_
  have o1 := R1.ob
  have o2 := R1.p
  have o3 := R1.d
  rw [Z.epl] at o2
  rw [Z.edn] at o3
  exact ⟨fun c o nb e => b3 c o (fun z => nb (.inr (.inl z))) (fun z => nb (.inr (.inr (.inl z)))) (fun z => nb (.inr (.inr (.inr z)))) e, fun c o e m1 m2 => b3 c o (fun z => by
    rw [z, o1] at e
    exact m2 _ _ _ (Option.some.inj e).symm) (fun z => by
    rw [z, o2] at e
    exact m1 _ (Option.some.inj e).symm) (fun z => by
    rw [z, o3] at e
    exact m1 _ (Option.some.inj e).symm) e⟩
theorem num_but (n1 : p ≠ r) (n2 : p ≠ pls) (n3 : p ≠ dns) (b3 : But3 r pls dns H H') (h : Num3 p H) : Num3 p H' := by
  obtain ⟨x, y, z, q⟩ := h
  exact ⟨x, y, z, b3 _ _ n1 n2 n3 q⟩
/-- who can go -/
def canL (sm : V → V → Bool) (S : Sto) (fs : List StF) (anss : List (List V)) (k : Nat) : Bool := match fs[k]?, anss[k]? with
  | some F, some ans => canS sm S F ans
  | _, _ => false
theorem canL_at {S : Sto} {fs : List StF} {anss : List (List V)} {k : Nat} {F : StF} {ans : List V} (h1 : fs[k]? = some F) (h2 : anss[k]? = some ans) : canL sm S fs anss k = canS sm S F ans := by
  unfold canL
  rw [h1, h2]
end
end TW
namespace TW
open PySem PySem.Spec PyProof.Rows L2 LamX
abbrev rLenK (K : PySem.W.Frag) : List V → Hp → VK → Prop := fun xs H Q => ∃ p ys, xs = [V.ref p] ∧ (SqL K H p ys ∨ SqT K H p ys) ∧ Q (V.int (ys.length : Nat)) H
abbrev tIxT (K : PySem.W.Frag) (t i : TE) : TE := tOp (rIxT K) t i
abbrev tStep1 (K : PySem.W.Frag) : TT := tAnd (tTest (tOp rEq (tIxT K (tVar 10) (tC (.int 0))) (tVar 4))) (tTest (tOp rEq (tIxT K (tIxT K (tVar 10) (tC (.int 1))) (tC (.int 0))) (tC (.str "trade"))))
abbrev tStep2 (K : PySem.W.Frag) : TT := tAnd (tTest (tOp rEq (tIxT K (tVar 10) (tC (.int 0))) (tVar 4))) (tTest (tOp rIsTrue (tIxT K (tVar 10) (tC (.int 2))) (tC (.bl true))))
abbrev scCnt : Scope := { kind := .function, names := [(".0", .local), ("_law_k", .cell), ("len", .globalImplicit), ("_law_steps", .cell)], isGenerator := false, isCoroutine := false }
def tCntL (K : PySem.W.Frag) (tt : TT) : TE := tCB (rLenK K) (tCons (tLc (iList K (tVar 8)) (gName 10) tt (tVar 10) [10]) tNil)
theorem gset {i : Nat} {v : V} {σ : L2.St} {H : Hp} {k : L2.St → Hp → Prop} (h : k (σ.set i (some v)) H) : gName i v σ H k := h
section
variable {K : PySem.W.Frag} {H : Hp} {σ : L2.St} {l : Addr} {xs : List V} {steps : StepL} {pr : Nat × List V × V → Bool} {tt : TT}
/-- the steps that are so are counted -/
theorem cnt_lc (h8 : σ[8]? = some (some (.ref l))) (hw : (wipe σ [10])[8]? = some (some (.ref l))) (w2 : ∀ x, wipe ((wipe σ [10]).set 10 (some x)) [10] = wipe σ [10]) (w3 : ∀ x, ((wipe σ [10]).set 10 (some x))[10]? = some (some x))
    (hl : H l = some (.lst xs)) (lx : xs.length = steps.length) (few : steps.length ≤ 1000)
    (ht : ∀ (i : Nat) (x : V) (s : Nat × List V × V) (G : Hp) (k : Bool → Hp → Prop), xs[i]? = some x → steps[i]? = some s → Same H G → k (pr s) G → tt ((wipe σ [10]).set 10 (some x)) G k) {Q : VK} (q : ∀ G, Same H G → Q (.int (cnt pr steps : Nat)) G) : tCntL K tt σ H Q := by
  refine ⟨_, h8, l, rfl, ⟨xs, SqL.of hl⟩, fun D hD => ?_⟩
  refine lc_it (walk_list (K := K) (a := l) (xs := xs)) (fun i H' => Same H H' ∧ ∃ acc, H' D = some (.lst acc) ∧ acc.length = cnt pr (steps.take i)) ⟨same_new hD, [], upd_same, rfl⟩ (fun i H' _ p => SqL.of (p.1 _ _ hl)) (fun i x H1 H' hi p y => ?_) (fun H1 p => ?_)
  · obtain ⟨rfl, hx⟩ := y
    obtain ⟨s1, acc, e1, e2⟩ := p
    obtain ⟨s, hs⟩ : ∃ s, steps[i]? = some s := ⟨_, List.getElem?_eq_getElem (by omega)⟩
    have et : steps.take (i + 1) = steps.take i ++ [s] := by
      rw [List.take_add_one, hs]
      rfl
    refine ⟨w2 x, ht i x s _ _ hx hs s1 ?_⟩
    cases c : pr s with
    | true =>
      refine iteT ⟨x, w3 x, acc, e1, ?_, fun b o z => ?_, acc ++ [x], upd_same, ?_⟩
      · rw [e2]
        have : cnt pr (steps.take i) ≤ (steps.take i).length := List.length_filter_le _ _
        rw [List.length_take] at this
        exact Nat.lt_of_lt_of_le (by omega : cnt pr (steps.take i) < 1001) (small_sz (n := 1001) (by decide))
      · rw [upd_ne (ne_of_none z hD)]
        exact s1 b o z
      · rw [et, cnt_snoc, if_pos c, List.length_append, e2]
        rfl
    | false =>
      refine iteF ⟨s1, acc, e1, ?_⟩
      rw [et, cnt_snoc, if_neg (by rw [c]; exact Bool.false_ne_true), e2]
      rfl
  · obtain ⟨s1, acc, e1, e2⟩ := p
    rw [lx, List.take_length] at e2
    refine ⟨D, acc, rfl, .inl (SqL.of e1), ?_⟩
    rw [e2]
    exact q _ s1
end
end TW
namespace TW
open PySem PySem.Spec PyProof.Rows L2 LamX
section
variable {K : PySem.W.Frag} {sm : V → V → Bool} {CR CT CP CS sh r pls dns p tl D : Addr} {HH H H' : Hp} {t0 t1 : Nat} {vals : List V} {size : V} {R : RS} {S1 : Sto} {S0 : SS} {a0 a1 a2 a3 : List V} {steps : StepL}
/-- a place at its end -/
def Told (K : PySem.W.Frag) (H : Hp) (y : PS) (v : V) : Prop := y.pend = .non ∧ ∃ t, y.fin = .ref t ∧ SqT K H t [.str "told", v]
theorem LG.over (Z : LG K sm CR CT CP sh HH r pls dns t0 t1 vals size H R S1 a0 a1 a2 a3 steps) (nv : ∀ v ∈ vals, v ≠ .non) (hsz : size = .non ∨ ∃ i : Int, size = .int i ∧ 1 ≤ i) (no : ∀ k, k < 4 → canL sm S1 (fs19 t0 t1 vals) [a0, a1, a2, a3] k = false) :
    ∃ y0 y1 y2 y3, R.places = [y0, y1, y2, y3] ∧ Told K H y0 (.int (cnt (trS 0) steps : Nat)) ∧ Told K H y1 (.int (cnt (trS 1) steps : Nat)) ∧ Told K H y2 (.int (vals.length : Nat)) ∧ Told K H y3 (.str "all") ∧ y3.words = vals ∧
      cnt (dnS 0) steps = t0 ∧ cnt (dnS 1) steps = t1 ∧ valD S1.cells "n" = .int ((5 + t0 + t1 : Nat) : Int) ∧ valD S1.holders "l" = .non ∧ S1.bc "b" = [] := by
  obtain ⟨l0, r0, l1, r1, p0, p1, q, said, f, li⟩ := Z.li
  have n0 : canS sm S1 (cntF t0) a0 = false := (canL_at (fs := fs19 t0 t1 vals) (anss := [a0, a1, a2, a3]) (k := 0) rfl rfl).symm.trans (no 0 (by decide))
  have n1 : canS sm S1 (cntF t1) a1 = false := (canL_at (fs := fs19 t0 t1 vals) (anss := [a0, a1, a2, a3]) (k := 1) rfl rfl).symm.trans (no 1 (by decide))
  have n2 : canS sm S1 (layF vals) a2 = false := (canL_at (fs := fs19 t0 t1 vals) (anss := [a0, a1, a2, a3]) (k := 2) rfl rfl).symm.trans (no 2 (by decide))
  have n3 : canS sm S1 getF a3 = false := (canL_at (fs := fs19 t0 t1 vals) (anss := [a0, a1, a2, a3]) (k := 3) rfl rfl).symm.trans (no 3 (by decide))
  obtain ⟨rfl, rfl, e2, rfl, rfl, rfl⟩ := li.over nv hsz n0 n1 n2 n3
  have len := Z.run.len
  have l4 : (fs19 t0 t1 said).length = 4 := rfl
  match hp : R.places, len with
  | [y0, y1, y2, y3], _ =>
    have at_ : ∀ (k : Nat) (y : PS) (F : StF) (ans : List V), [y0, y1, y2, y3][k]? = some y → (fs19 t0 t1 said)[k]? = some F → ([a0, a1, a2, a3] : List (List V))[k]? = some ans → y.ans = ans ∧ BStop K F H y.ans y.pend y.fin y.words := fun k y F ans h1 h2 h3 => Z.run.pl k y F ans (by rw [hp]; exact h1) h2 h3
    have told : ∀ {k : Nat} {y : PS} {F : StF} {ans : List V} {v : V} {ws : List V}, [y0, y1, y2, y3][k]? = some y → (fs19 t0 t1 said)[k]? = some F → ([a0, a1, a2, a3] : List (List V))[k]? = some ans → F ans = (.told v, ws) → Told K H y v ∧ y.words = ws := fun {k y F ans v ws} h1 h2 h3 e => by
      obtain ⟨q1, q2, q3⟩ := at_ k y F ans h1 h2 h3
      rw [q1, e] at q2 q3
      exact ⟨q3, q2⟩
    refine ⟨y0, y1, y2, y3, rfl, ?_, ?_, ?_, ?_, ?_, ?_, ?_, ?_, ?_, ?_⟩
    · refine (told (k := 0) (ws := []) rfl rfl rfl (li.c0.stand.trans ?_)).1
      rw [cntS_zero, li.n0]
    · refine (told (k := 1) (ws := []) rfl rfl rfl (li.c1.stand.trans ?_)).1
      rw [cntS_zero, li.n1]
    · refine (told (k := 2) (ws := []) rfl rfl rfl ?_).1
      unfold layF
      rw [if_neg (by omega)]
    · refine (told (k := 3) rfl rfl rfl (li.gi.stand.trans (getS_non _ _))).1
    · exact (told (k := 3) rfl rfl rfl (li.gi.stand.trans (getS_non _ _))).2
    · exact li.d0
    · exact li.d1
    · exact li.n
    · have h := li.hl
      rw [if_neg (by decide)] at h
      exact h
    · rw [li.bc, e2]
      exact List.drop_eq_nil_of_le (by rw [List.length_take]; exact Nat.min_le_left _ _)
theorem Told.dp {y : PS} {v : V} {d : PyData} (h : Told K H y v) (hd : Dp K H v d) : Dp K H y.fin (.tuple [.str "told", d]) := by
  obtain ⟨_, t, e, ht⟩ := h
  rw [e]
  exact .tup ht (.cons (.str _) (.cons hd .nil))
theorem Told.same {y : PS} {v : V} (s : Same H H') (h : Told K H y v) : Told K H' y v := by
  obtain ⟨a, t, e, ht⟩ := h
  exact ⟨a, t, e, seqT_same s ht⟩
theorem told_lay {a b c : Int} : PyData.canLayAll0 [.tuple [.str "told", .int a], .tuple [.str "told", .int b], .tuple [.str "told", .int c], .tuple [.str "told", .str "all"]] = true := by
  have e1 : PyData.strOk "told" = true := by decide +kernel
  have e2 : PyData.strOk "all" = true := by decide +kernel
  simp only [PyData.canLayAll0, PyData.canLay0, e1, e2, Bool.and_true]
/-- a place's end, as the law tells it -/
theorem Told.tw {y : PS} {v : V} {n : Nat} {b : Addr} (h : Told K H y v) (hb : SqT K H b [.str "told", v]) (hv : Tw K H n v v) : Tw K H (n + 1) y.fin (.ref b) := by
  obtain ⟨_, t, e, ht⟩ := h
  rw [e]
  refine .tup ht hb rfl (by show 2 ≤ 1000; decide) fun i x z a b => ?_
  match i, a, b with
  | 0, a, b => cases a; cases b; exact .str _ _
  | 1, a, b => cases a; cases b; exact hv
end
end TW
namespace TW
open PySem PySem.Spec PyProof.Rows L2 LamX
abbrev sLaw : Stmt := top 72
abbrev NLaw : List Str := ["_law_script", "_law_draws", "_law_times", "_law_values", "_law_k", "_law_works", "_law_size", "_law_run", "_law_steps", "_law_tried", "_law_step", "_law_done", "_law_ends", "_law_told"]
theorem scLaw : FnScope NLaw ["_law_script"] (defScope sLaw) := ⟨rfl, rfl, rfl, by decide +kernel, rfl, by decide +kernel, by decide +kernel⟩
def spLaw (K : PySem.W.Frag) (T : List (Addr × Str)) : Sp := fun vs H Q _ => ∃ (a : Addr) (ns : List Int), vs = [.ref a] ∧ SqL K H a (ns.map V.int) ∧ ns.length ≤ 63 ∧ Tabs T H ∧ ∀ H', Q (.bl true) H'
abbrev qLaw : Str := "law.<locals>.<lambda>"
section
variable {P : Program} {w : World} {K : PySem.W.Frag} {mg : Str → Option Value} {base : Heap} {C CS CP CH CV CR CT CW CC CN pS t0 : Addr} {S : Addr → Option Sp} {N kw : Nat} {T : List (Addr × Str)}
abbrev lawX (P : Program) (w : World) (K : PySem.W.Frag) (mg : Str → Option Value) (base : Heap) (f c : Addr) (A : Around) (outer : List Env) (s : Shared) (H0 : Hp) (E : XK) : Cx := (cxOf CX0 P w K mg base NLaw "law" (defScope sLaw) f (.ref c) A outer s H0 E).nox
theorem ok_law {f c Pl fI fR fL fC fH fG : Addr} {fd fdI fdR fdL fdC fdH fdG : FuncData} (F : FunC K "law" "law" sLaw f fd c) (TB : TabB base mg c Pl) (hm : (Pl, qLaw) ∈ T) (hu : ∀ p ∈ T, p.1 = Pl → p.2 = qLaw) (B : Blt mg) (mSum : mg "sum" = none) (XR : RTxt K CR)
    (G1 : GlobOk P w K mg base CX0 N "_law_source" ["_law_script", "_law_at"] (spSource K))
    (G2 : GlobOk P w K mg base CX0 N "_law_draw" ["_law_draws", "_law_many"] spDraw)
    (G3 : GlobOk P w K mg base CX0 N "_law_pick" ["_law_draws", "_law_xs"] (spPick K))
    (G4 : GlobOk P w K mg base CX0 N "_law_same" ["_law_found", "_law_due"] (spSame K 8))
    (MS : Mk K CS fI) (GI : FnOk P w K mg base CX0 N fI fdI psSI (spSI K CS 3)) (mS : mg "Shop" = some (.ref CS)) (FI : FunSI K t0 fI fdI)
    (MR : Mk K CR fR) (mR : mg "Run" = some (.ref CR)) (bR : Binds K fdR ["self", "shop"] []) (GR : ∀ B, (∀ b o, base.get? b = some o → B.get? b = some o) → FnOk P w K mg B CX0 N fR fdR ["self", "shop"] (spRI K CR CS CT (spCome P w K mg B C CS CP CH CV (kw + 1) 3)))
    (mL : mg "_law_led" = some (.ref fL)) (kL : PySem.W.keepIn K (.ref fL) = true) (bL : Binds K fdL ["_law_run", "_law_draws", "_law_far"] []) (GL : ∀ B, (∀ b o, base.get? b = some o → B.get? b = some o) → FnOk P w K mg B (L2.CX P w) N fL fdL ["_law_run", "_law_draws", "_law_far"] (spLed P w K CR CT CP CW CC pS S (RD K 3) (spCome P w K mg B C CS CP CH CV (kw + 1) 3)))
    (M1 : MethOk P w K mg base CX0 N CR "steps" ["self"] (spSteps K CR CT CP))
    (M2 : MethOk P w K mg base (L2.CX P w) N CR "cell" ["self", "name"] (spCellOf K CR CT CP CN (fun T => T.cells)))
    (M3 : MethOk P w K mg base CX0 N CR "stands" ["self"] (spStands K CR CT CP (RD K 3)))
    (M4 : MethOk P w K mg base CX0 N CR "ends" ["self"] (spEnds K CR CT CP))
    (M5 : MethOk P w K mg base (L2.CX P w) N CR "said" ["self", "k"] (spOfPlace K CR CT CP CW (fun y => .ref y.tw)))
    (M6 : MethOk P w K mg base (L2.CX P w) N CR "holder" ["self", "name"] (spCellOf K CR CT CP CN (fun T => T.holders)))
    (M7 : MethOk P w K mg base (L2.CX P w) N CR "belt" ["self", "name"] (spCellOf K CR CT CP CN (fun T => T.rows)))
    (M8 : MethOk P w K mg base CX0 N CR "turns" ["self"] (spTurns K CR CT CP))
    (GC : ∀ B, (∀ b o, base.get? b = some o → B.get? b = some o) → FnOk P w K mg B (L2.CX P w) kw fC fdC ["_law_times", "_law_hand"] (spCount K C CS CH)) (mC : mg "_law_counting" = some (.ref fC)) (kC : PySem.W.keepIn K (.ref fC) = true) (bC : Binds K fdC ["_law_times", "_law_hand"] [])
    (GH : ∀ B, (∀ b o, base.get? b = some o → B.get? b = some o) → FnOk P w K mg B (L2.CX P w) kw fH fdH ["_law_values", "_law_hand"] (spHanding K C CS CH)) (mH : mg "_law_handing" = some (.ref fH)) (kH : PySem.W.keepIn K (.ref fH) = true) (bH : Binds K fdH ["_law_values", "_law_hand"] [])
    (GG : ∀ B, (∀ b o, base.get? b = some o → B.get? b = some o) → FnOk P w K mg B (L2.CX P w) kw fG fdG ["_law_hand"] (spGetting K C CS CH)) (mG : mg "_law_getting" = some (.ref fG)) (bG : Binds K fdG ["_law_hand"] []) (aG : PySem.W.FnAt fG base)
    (hx : PySem.W.exmOne K (.ref CH) (.ref CH) = some true) (SK : StepKs K w CT pS S) :
    FnOk P w K mg base CX0 (N + 2) f fd ["_law_script"] (spLaw K T) := by
  refine F.does scLaw (fun vs H Q E h => ?_) (fun A outer s H vs Q E hr h => ?_)
  · obtain ⟨a, ns, rfl, _⟩ := h
    rfl
  · obtain ⟨a, ns, rfl, hns, few, hT, k⟩ := h
    have hr0 : Room N _ := hr.mono (by omega)
    have kb5 := kb_five FI
    obtain ⟨f1, d1, E1, m1, k1, b1⟩ := G1
    obtain ⟨f2, d2, E2, m2, k2, b2⟩ := G2
    obtain ⟨f3, d3, E3, m3, k3, b3⟩ := G3
    obtain ⟨f4, d4, E4, m4, k4, b4⟩ := G4
    obtain ⟨i1, j1, J1, h1, c1⟩ := M1
    obtain ⟨i2, j2, J2, h2, c2⟩ := M2
    obtain ⟨i3, j3, J3, h3, c3⟩ := M3
    obtain ⟨i4, j4, J4, h4, c4⟩ := M4
    obtain ⟨i5, j5, J5, h5, c5⟩ := M5
    obtain ⟨i6, j6, J6, h6, c6⟩ := M6
    obtain ⟨i7, j7, J7, h7, c7⟩ := M7
    obtain ⟨i8, j8, J8, h8, c8⟩ := M8
    refine ⟨_, pss_cons (ps_set (i := 1) scLaw.nd rfl (.inr rfl) (pe_call E1 hr0 rfl m1 k1 b1 .nil pass0 (pa_cons (pv 0) (pa_cons pe_int pa_nil))))
      (pss_cons (ps_set (i := 2) scLaw.nd rfl (.inr rfl) (pe_lst (pa_cons (pe_op op_add pe_int (pe_call E2 hr0 rfl m2 k2 b2 .nil pass0 (pa_cons (pv 1) (pa_cons pe_int pa_nil)))) (pa_cons (pe_op op_add pe_int (pe_call E2 hr0 rfl m2 k2 b2 .nil pass0 (pa_cons (pv 1) (pa_cons pe_int pa_nil)))) pa_nil))))
      (pss_cons (ps_set (i := 3) scLaw.nd rfl (.inr rfl) (pe_lc (own := [("_law_k", 4)]) rfl scLaw.nd (pi_range1 (by rfl) B.range (pa_cons (pe_call E2 hr0 rfl m2 k2 b2 .nil pass0 (pa_cons (pv 1) (pa_cons pe_int pa_nil))) pa_nil)) (blkOk_by (N := NLaw) (sc := defScope sLaw) (by decide +kernel)) (fun _ _ _ _ _ => pg_name (i := 4) scLaw.nd rfl (Or.inl rfl)) (fun _ _ _ _ _ => pts_nil)
          (te := tCall (spPick K) [] E0 (tCons (tVar 1) (tCons (tLst (tCons (tC (.int 1)) (tCons (tC (.bl true)) (tCons (tC (.str "a")) (tCons (tTup (tCons (tC (.int 1)) (tCons (tC (.int 2)) tNil))) (tCons (tC (.int 0)) tNil)))))) tNil)))
          (fun _ _ _ _ _ => by exact pe_call E3 hr0 rfl m3 k3 b3 .nil pass0 (pa_cons (pv 1) (pa_cons (pe_lst (pa_cons pe_int (pa_cons pe_bl (pa_cons pe_str (pa_cons (pe_tup (pa_cons pe_int (pa_cons pe_int pa_nil))) (pa_cons pe_int pa_nil)))))) pa_nil)))))
      (pss_cons (ps_set (i := 5) scLaw.nd rfl (.inl rfl) (pe_lst (pa_cons (pe_cloV (T := T) TB rfl hm hu (by exact fun y hy e => (NdefX.ndef_free (sc := defScope sLaw) (fr := []) (by decide +kernel) y hy e).elim (fun z => cell_has z) (fun z => absurd rfl (scLaw.nofree _ (PySem.mem_of_lookup z))))) (pa_cons (pe_cloV (T := T) TB rfl hm hu (by exact fun y hy e => (NdefX.ndef_free (sc := defScope sLaw) (fr := []) (by decide +kernel) y hy e).elim (fun z => cell_has z) (fun z => absurd rfl (scLaw.nofree _ (PySem.mem_of_lookup z))))) pa_nil))))
      (pss_cons (ps_expr (pe_bm PySem.F.plainAttrs_list PySem.F.slot_list_extend PySem.F.type_list_extend mt_extend (pv 5) (pa_cons (pe_lst (pa_cons (pe_cloV (T := T) TB rfl hm hu (by exact fun y hy e => (NdefX.ndef_free (sc := defScope sLaw) (fr := []) (by decide +kernel) y hy e).elim (fun z => cell_has z) (fun z => absurd rfl (scLaw.nofree _ (PySem.mem_of_lookup z))))) (pa_cons (pe_glob (v := .ref fG) rfl mG rfl) pa_nil))) pa_nil)))
      (pss_cons (ps_set (i := 6) scLaw.nd rfl (.inl rfl) (pe_call E3 hr0 rfl m3 k3 b3 .nil pass0 (pa_cons (pv 1) (pa_cons (pe_lst (pa_cons pe_int (pa_cons pe_int (pa_cons pe_non pa_nil)))) pa_nil))))
      (pss_cons (ps_set (i := 7) scLaw.nd rfl (.inl rfl) (pe_makeH MR GR hr rfl mR bR .nil (fun _ => rfl) (pa_cons (pe_makeK (n := 1) MS GI hr rfl mS kb5 pass0 (pa_cons (pv 5) pa_nil) (pk_cons (pe_disp (pps_cons pe_str pe_int pps_nil) (by rfl) (by rfl) (fun z => by cases z) (by decide)) (pk_cons (pe_lst (pa_cons pe_str pa_nil)) (pk_cons (pe_disp (pps_cons pe_str (pv 6) pps_nil) (by rfl) (by rfl) (fun z => by cases z) (by decide)) (pk_cons pe_int (pk_cons pe_int pk_nil)))))) pa_nil)))
      (pss_cons (ps_if (pt_not (pt_val (pe_callJ GL hr0 rfl mL kL bL .nil (fun _ => rfl) (pa_cons (pv 7) (pa_cons (pv 1) (pa_cons pe_int pa_nil)))))) (pss_one (ps_ret pe_bl)) pss_nil)
      (pss_cons (ps_set (i := 8) scLaw.nd rfl (.inr rfl) (pe_meth0 (pv 7) XR.cl h1 J1 hr0 c1 .nil pass0))
      (pss_cons (ps_setLc (i := 9) (own := [("_law_k", 4)]) rfl scLaw.nd rfl rfl (by rfl) (pi_range1 (by rfl) B.range (pa_cons pe_int pa_nil)) (blkOk_by (N := NLaw) (sc := defScope sLaw) (by decide +kernel)) (fun _ _ _ _ _ => pg_name (i := 4) scLaw.nd rfl (Or.inr rfl)) (fun _ _ _ _ _ => pts_nil)
          (te := tCntL K (tStep1 K)) (fun _ _ _ _ _ => by exact pe_callB call_len_seq (by rfl) B.len PySem.boot_len (pa_cons (pe_lc (own := [("_law_step", 10)]) rfl scLaw.nd (pi_list (pv 8)) (blkOk_by (N := NLaw) (sc := scCnt) (by decide +kernel)) (fun _ _ _ _ _ => pg_name (i := 10) scLaw.nd rfl (Or.inl rfl))
            (fun _ _ _ _ _ => by exact pts_one (PW.pt (pw_and (pt_cmpR op_eq (pe_ix ix_tup (pv 10) pe_int (fun _ _ => rfl)) (pv 4) (nomark _)) (pw_and1 (pt_cmpR op_eq (pe_ix ix_tup (pe_ix ix_tup (pv 10) pe_int (fun _ _ => rfl)) pe_int (fun _ _ => rfl)) pe_str (nomark _)))))) (te := tVar 10) (fun _ _ _ _ _ => by exact pv 10)) pa_nil)))
      (pss_cons (ps_setLc (i := 11) (own := [("_law_k", 4)]) rfl scLaw.nd rfl rfl (by rfl) (pi_range1 (by rfl) B.range (pa_cons pe_int pa_nil)) (blkOk_by (N := NLaw) (sc := defScope sLaw) (by decide +kernel)) (fun _ _ _ _ _ => pg_name (i := 4) scLaw.nd rfl (Or.inr rfl)) (fun _ _ _ _ _ => pts_nil)
          (te := tCntL K (tStep2 K)) (fun _ _ _ _ _ => by exact pe_callB call_len_seq (by rfl) B.len PySem.boot_len (pa_cons (pe_lc (own := [("_law_step", 10)]) rfl scLaw.nd (pi_list (pv 8)) (blkOk_by (N := NLaw) (sc := scCnt) (by decide +kernel)) (fun _ _ _ _ _ => pg_name (i := 10) scLaw.nd rfl (Or.inl rfl))
            (fun _ _ _ _ _ => by exact pts_one (PW.pt (pw_and (pt_cmpR op_eq (pe_ix ix_tup (pv 10) pe_int (fun _ _ => rfl)) (pv 4) (nomark _)) (pw_and1 (pt_cmpR op_isTrue (pe_ix ix_tup (pv 10) pe_int (fun _ _ => rfl)) pe_bl (nomark _)))))) (te := tVar 10) (fun _ _ _ _ _ => by exact pv 10)) pa_nil)))
      (pss_cons (ps_if (PW.pt (pw_or (pt_not (pt_val (pe_call E4 hr0 rfl m4 k4 b4 .nil pass0 (pa_cons (pe_lst (pa_cons (pe_meth (pv 7) XR.cl h2 J2 hr0 c2 .nil passN (pa_cons pe_str pa_nil)) (pa_cons (pv 11) pa_nil))) (pa_cons (pe_lst (pa_cons (pe_op op_add pe_int (pe_callB (cr_sum rfl) (by rfl) mSum (by decide +kernel) (pa_cons (pv 2) pa_nil))) (pa_cons (pv 2) pa_nil))) pa_nil)))))
            (pw_or1 (pt_val (pe_meth0 (pv 7) XR.cl h3 J3 hr0 c3 .nil pass0))))) (pss_one (ps_ret pe_bl)) pss_nil)
      (pss_cons (ps_set (i := 12) scLaw.nd rfl (.inl rfl) (pe_tup (pa_cons (pe_tup (pa_cons pe_str (pa_cons (pe_ix ix_list (pv 9) pe_int (fun _ _ => rfl)) pa_nil))) (pa_cons (pe_tup (pa_cons pe_str (pa_cons (pe_ix ix_list (pv 9) pe_int (fun _ _ => rfl)) pa_nil))) (pa_cons (pe_tup (pa_cons pe_str (pa_cons (pe_callB call_len_seq (by rfl) B.len PySem.boot_len (pa_cons (pv 3) pa_nil)) pa_nil))) (pa_cons (pe_tup (pa_cons pe_str (pa_cons pe_str pa_nil))) pa_nil))))))
      (pss_cons (ps_set (i := 13) scLaw.nd rfl (.inl rfl) (pe_lst (pa_cons (pe_meth0 (pv 7) XR.cl h4 J4 hr0 c4 .nil pass0) (pa_cons (pe_meth (pv 7) XR.cl h5 J5 hr0 c5 .nil passN (pa_cons pe_int pa_nil)) (pa_cons (pe_meth (pv 7) XR.cl h6 J6 hr0 c6 .nil passN (pa_cons pe_str pa_nil)) (pa_cons (pe_meth (pv 7) XR.cl h7 J7 hr0 c7 .nil passN (pa_cons pe_str pa_nil)) (pa_cons (pe_callB call_len_seq (by rfl) B.len PySem.boot_len (pa_cons (pe_meth0 (pv 7) XR.cl h8 J8 hr0 c8 .nil pass0) pa_nil)) pa_nil)))))))
      (pss_one (ps_ret (pe_call E4 hr0 rfl m4 k4 b4 .nil pass0 (pa_cons (pv 13) (pa_cons (pe_lst (pa_cons (pv 12) (pa_cons (pe_callTy call_tupU (by rfl) B.tuple (by decide +kernel) (pa_cons (pv 3) pa_nil)) (pa_cons pe_non (pa_cons (pe_tup pa_nil) (pa_cons (pe_callB call_len_seq (by rfl) B.len PySem.boot_len (pa_cons (pv 8) pa_nil)) pa_nil)))))) pa_nil)))))))))))))))))), ?_⟩
    refine ⟨_, rfl, a, ns, 0, rfl, hns, few, fun p x0 y0 hp => ?_⟩
    have s1 := same_new (o := .lst [.int x0, .int y0, .int 0]) hp
    have T1 := tabs_same s1 hT
    have p1 : (upd H p (.lst [.int x0, .int y0, .int 0])) p = some (.lst [.int x0, .int y0, .int 0]) := upd_same
    generalize upd H p (.lst [.int x0, .int y0, .int 0]) = H1 at *
    -- how many times
    refine ⟨_, rfl, p, _, _, _, 7, rfl, p1, by decide, by decide, fun r1 x1 y1 z1 lo1 hi1 => ⟨_, _, rfl, rfl, ?_⟩⟩
    refine ⟨_, rfl, p, x1, y1, z1, 7, rfl, upd_same, by decide, by decide, fun r2 x2 y2 z2 lo2 hi2 => ⟨_, _, rfl, rfl, ?_⟩⟩
    rw [upd_upd]
    obtain ⟨t0, ht0, t02, t08⟩ : ∃ t : Nat, 2 + r1 = (t : Int) ∧ 2 ≤ t ∧ t ≤ 8 := ⟨(2 + r1).toNat, by omega, by omega, by omega⟩
    obtain ⟨t1, ht1, t12, t18⟩ : ∃ t : Nat, 2 + r2 = (t : Int) ∧ 2 ≤ t ∧ t ≤ 8 := ⟨(2 + r2).toNat, by omega, by omega, by omega⟩
    have T2 : Tabs T (upd H1 p (.lst [.int x2, .int y2, .int z2])) := tabs_lst p1 T1
    have p2 : (upd H1 p (.lst [.int x2, .int y2, .int z2])) p = some (.lst [.int x2, .int y2, .int z2]) := upd_same
    generalize upd H1 p (.lst [.int x2, .int y2, .int z2]) = H2 at *
    refine ⟨two_sz, fun tl htl => ?_⟩
    have s3 := same_new (o := .lst [.int (2 + r1), .int (2 + r2)]) htl
    have tl3 : (upd H2 tl (.lst [.int (2 + r1), .int (2 + r2)])) tl = some (.lst [.int (2 + r1), .int (2 + r2)]) := upd_same
    have T3 := tabs_same s3 T2
    have p3 := s3 _ _ p2
    have tlp : tl ≠ p := fun e => by
      rw [e, p2] at htl
      cases htl
    generalize upd H2 tl (.lst [.int (2 + r1), .int (2 + r2)]) = H3 at *
    rw [ht0, ht1] at tl3
    -- the values
    refine ⟨_, rfl, p, _, _, _, 10, rfl, p3, by decide, by decide, fun r3 x3 y3 z3 lo3 hi3 => ?_⟩
    obtain ⟨m, hm, m9⟩ : ∃ m : Nat, r3 = (m : Int) ∧ m ≤ 9 := ⟨r3.toNat, by omega, by omega⟩
    have P4 : PutP p H3 (upd H3 p (.lst [.int x3, .int y3, .int z3])) := .put
    have T4 : Tabs T (upd H3 p (.lst [.int x3, .int y3, .int z3])) := tabs_lst p3 T3
    have tl4 := P4.k _ _ tlp tl3
    generalize upd H3 p (.lst [.int x3, .int y3, .int z3]) = H4 at *
    refine ⟨(m : Int), by rw [← hm], by omega, by omega, fun D hD => ?_⟩
    have Dp : D ≠ p := fun e => by
      obtain ⟨u1, u2, u3, q⟩ := P4.p
      rw [e, q] at hD
      cases hD
    have tlD : tl ≠ D := ne_of_none tl4 hD
    refine lc_range (lo := 0) (n := m) (fun i H' => PutP p H4 H' ∧ Tabs T H' ∧ ∃ vals : List V, H' D = some (.lst vals) ∧ vals.length = i ∧ ∀ v ∈ vals, v ≠ .non ∧ PV K H' v)
      ⟨PutP.same (same_new hD) P4.p, tabs_same (same_new hD) T4, [], upd_same, rfl, fun v h => (nomatch h)⟩ (fun i Hw hi z => ?_) (fun Hw z => ?_)
    · obtain ⟨Pw, Tw0, vals, hv, lv, pvs⟩ := z
      obtain ⟨w1, w2, w3, pw⟩ := Pw.p
      refine ⟨rfl, yesI (iteT ?_)⟩
      refine ⟨_, rfl, two_sz, fun tt htt => ⟨small_sz (n := 5) (by decide), fun lm hlm => ?_⟩⟩
      have sA := same_new (o := .tup [.int 1, .int 2]) htt
      have eA : (upd Hw tt (.tup [.int 1, .int 2])) tt = some (.tup [.int 1, .int 2]) := upd_same
      generalize upd Hw tt (.tup [.int 1, .int 2]) = Hx at *
      have sB := same_new (o := .lst [.int 1, .bl true, .str "a", .ref tt, .int 0]) hlm
      have eB : (upd Hx lm (.lst [.int 1, .bl true, .str "a", .ref tt, .int 0])) lm = some (.lst [.int 1, .bl true, .str "a", .ref tt, .int 0]) := upd_same
      have lp : lm ≠ p := fun e => by
        rw [e, sA _ _ pw] at hlm
        cases hlm
      have ttp : tt ≠ p := fun e => by
        rw [e, pw] at htt
        cases htt
      generalize upd Hx lm (.lst [.int 1, .bl true, .str "a", .ref tt, .int 0]) = Hy at *
      have sAB := sA.trans sB
      refine ⟨p, lm, w1, w2, w3, _, rfl, sAB _ _ pw, SqL.of eB, by show 0 < 5; decide, by show 5 ≤ 1000; decide, fun a' b' c' => SqL.of ((upd_ne lp).trans eB), fun j v a' b' c' hj => ?_⟩
      have Pz : PutP p Hw (upd Hy p (.lst [.int a', .int b', .int c'])) := (PutP.same sAB ⟨w1, w2, w3, pw⟩).trans .put
      have Tz : Tabs T (upd Hy p (.lst [.int a', .int b', .int c'])) := tabs_lst (sAB _ _ pw) (tabs_same sAB Tw0)
      have ez : (upd Hy p (.lst [.int a', .int b', .int c'])) tt = some (.tup [.int 1, .int 2]) := (upd_ne ttp).trans (sB _ _ eA)
      have tkz : TK K Hw (upd Hy p (.lst [.int a', .int b', .int c'])) := Pz.tk ⟨w1, w2, w3, pw⟩
      have vz := Pz.k _ _ Dp hv
      have good : v ≠ .non ∧ PV K (upd Hy p (.lst [.int a', .int b', .int c'])) v := by
        match j, hj with
        | 0, hj => cases hj; exact ⟨fun z => (nomatch z), _, .int _ _⟩
        | 1, hj => cases hj; exact ⟨fun z => (nomatch z), _, .bl _ _⟩
        | 2, hj => cases hj; exact ⟨fun z => (nomatch z), _, .str _ _ (by decide +kernel)⟩
        | 3, hj =>
          cases hj
          refine ⟨fun z => (nomatch z), .tuple [.int 1, .int 2], .tup (SqT.of ez) rfl (by show 2 ≤ 1000; decide) fun i x d e1 e2 => ?_⟩
          match i, e1, e2 with
          | 0, e1, e2 => cases e1; cases e2; exact .int _ _
          | 1, e1, e2 => cases e1; cases e2; exact .int _ _
        | 4, hj => cases hj; exact ⟨fun z => (nomatch z), _, .int _ _⟩
      clear sA sB sAB eA eB lp ttp ez hj
      generalize upd Hy p (.lst [.int a', .int b', .int c']) = Hz at *
      have tkd : TK K Hz (upd Hz D (.lst (vals ++ [v]))) := tk_lst vz
      refine ⟨vals, vz, ?_, ⟨fun b' o e1' e2' => ?_, ?_⟩, tabs_lst vz Tz, vals ++ [v], upd_same, by rw [List.length_append, lv]; rfl, fun x hx => ?_⟩
      · rw [lv]
        exact Nat.lt_of_lt_of_le (by omega : i < 10) (small_sz (n := 10) (by decide))
      · rw [upd_ne (ne_of_none e2' hD)]
        exact Pz.k _ _ e1' (Pw.k _ _ e1' e2')
      · obtain ⟨u1, u2, u3, q⟩ := Pz.p
        exact ⟨u1, u2, u3, (upd_ne (Ne.symm Dp)).trans q⟩
      · rcases List.mem_append.mp hx with h | h
        · exact ⟨(pvs x h).1, ((pvs x h).2.tk tkz).tk tkd⟩
        · rw [List.mem_singleton.mp h]
          exact ⟨good.1, good.2.tk tkd⟩
    obtain ⟨Pw, T5, vals, hv, lv, pvs⟩ := z
    have nv : ∀ v ∈ vals, v ≠ .non := fun v h => (pvs v h).1
    have pvs : ∀ v ∈ vals, PV K Hw v := fun v h => (pvs v h).2
    have bv : vals.length ≤ 9 := by omega
    obtain ⟨w1, w2, w3, pw⟩ := Pw.p
    have tlw := Pw.k _ _ tlp tl4
    clear T4 Pw tl4 P4 p3 T3 tl3 s3 htl p2 T2 p1 T1 s1 hp hD
    -- the works
    refine ⟨T5, fun g1 c1' Hx e6 T6 n6 cc6 => ?_⟩
    generalize hO1 : CloV g1 c1' _ _ _ _ _ = O1
    have s6 := same_new (o := O1) n6
    have o6 : (upd Hx g1 O1) g1 = some O1 := upd_same
    have c6 := s6 _ _ cc6
    have T6 := tabs_same s6 T6
    have x6 : ∀ b o, Hw b = some o → (∀ ps, o ≠ .tbl ps) → (upd Hx g1 O1) b = some o := fun b o e n => s6 _ _ (e6 b o e n)
    clear s6 cc6 e6 n6
    generalize upd Hx g1 O1 = H6 at *
    refine ⟨T6, fun g2 c2' Hx e7 T7 n7 cc7 => ?_⟩
    generalize hO2 : CloV g2 c2' _ _ _ _ _ = O2
    have s7 := same_new (o := O2) n7
    have o7 : (upd Hx g2 O2) g2 = some O2 := upd_same
    have c7 := s7 _ _ cc7
    have T7 := tabs_same s7 T7
    have x7 : ∀ b o, H6 b = some o → (∀ ps, o ≠ .tbl ps) → (upd Hx g2 O2) b = some o := fun b o e n => s7 _ _ (e7 b o e n)
    clear s7 cc7 e7 n7
    generalize upd Hx g2 O2 = H7 at *
    refine ⟨two_sz, fun wl hwl => ?_⟩
    have s8 := same_new (o := .lst [.ref g1, .ref g2]) hwl
    have w8 : (upd H7 wl (.lst [.ref g1, .ref g2])) wl = some (.lst [.ref g1, .ref g2]) := upd_same
    have T8 := tabs_same s8 T7
    generalize upd H7 wl (.lst [.ref g1, .ref g2]) = H8 at *
    refine ⟨_, rfl, .inl ⟨rfl, _, SqL.of w8⟩, T8, fun g3 c3' Hx e9 T9 n9 cc9 => ?_⟩
    generalize hO3 : CloV g3 c3' _ _ _ _ _ = O3
    have s9 := same_new (o := O3) n9
    have o9 : (upd Hx g3 O3) g3 = some O3 := upd_same
    have c9 := s9 _ _ cc9
    have T9 := tabs_same s9 T9
    have x9 : ∀ b o, H8 b = some o → (∀ ps, o ≠ .tbl ps) → (upd Hx g3 O3) b = some o := fun b o e n => s9 _ _ (e9 b o e n)
    clear s9 cc9 e9 n9
    generalize upd Hx g3 O3 = H9 at *
    refine ⟨two_sz, fun w2l hw2 => ?_⟩
    have s10 := same_new (o := .lst [.ref g3, .ref fG]) hw2
    have e10 : (upd H9 w2l (.lst [.ref g3, .ref fG])) w2l = some (.lst [.ref g3, .ref fG]) := upd_same
    have T10 := tabs_same s10 T9
    generalize upd H9 w2l (.lst [.ref g3, .ref fG]) = H10 at *
    have wl10 : H10 wl = some (.lst [.ref g1, .ref g2]) := s10 _ _ (x9 _ _ w8 fun _ z => (nomatch z))
    refine ⟨wl, w2l, _, _, rfl, rfl, wl10, e10, small_sz (n := 4) (by decide), ?_⟩
    have wlp : wl ≠ p := fun e => by
      rw [e, x7 _ _ (x6 _ _ pw fun _ z => (nomatch z)) fun _ z => (nomatch z)] at hwl
      cases hwl
    have wltl : wl ≠ tl := fun e => by
      rw [e, x7 _ _ (x6 _ _ tlw fun _ z => (nomatch z)) fun _ z => (nomatch z)] at hwl
      cases hwl
    have wlD : wl ≠ D := fun e => by
      rw [e, x7 _ _ (x6 _ _ hv fun _ z => (nomatch z)) fun _ z => (nomatch z)] at hwl
      cases hwl
    have k11 : ∀ b o, b ≠ wl → H10 b = some o → (upd H10 wl (.lst ([.ref g1, .ref g2] ++ [.ref g3, .ref fG]))) b = some o := fun b o n e => (upd_ne n).trans e
    have tk11 : TK K H10 (upd H10 wl (.lst ([.ref g1, .ref g2] ++ [.ref g3, .ref fG]))) := tk_lst wl10
    have wl11 : (upd H10 wl (.lst ([.ref g1, .ref g2] ++ [.ref g3, .ref fG]))) wl = some (.lst [.ref g1, .ref g2, .ref g3, .ref fG]) := upd_same
    generalize upd H10 wl (.lst ([.ref g1, .ref g2] ++ [.ref g3, .ref fG])) = H11 at *
    have tw : TK K Hw H11 := (extN_tk x6).trans ((extN_tk x7).trans ((TK.of s8).trans ((extN_tk x9).trans ((TK.of s10).trans tk11))))
    have y6 : ∀ b o, H6 b = some o → (∀ ps, o ≠ .tbl ps) → b ≠ wl → H11 b = some o := fun b o e n nb => k11 _ _ nb (s10 _ _ (x9 _ _ (s8 _ _ (x7 _ _ e n)) n))
    have nwl : ∀ {Hq : Hp} {b : Addr} {o : HO}, Hq b = some o → Hq wl = none → b ≠ wl := fun {Hq b o} e h z => by
      rw [z, h] at e
      cases e
    have nb : ∀ {b : Addr} {o : HO}, H10 b = some o → (∀ xs, o ≠ .lst xs) → b ≠ wl := fun {b o} e n z => by
      rw [z, wl10] at e
      exact n _ (Option.some.inj e).symm
    have up6 : ∀ {b : Addr} {o : HO}, H6 b = some o → (∀ ps, o ≠ .tbl ps) → (∀ xs, o ≠ .lst xs) → H11 b = some o := fun {b o} e n n2 => y6 b o e n (nb (s10 _ _ (x9 _ _ (s8 _ _ (x7 _ _ e n)) n)) n2)
    have up7 : ∀ {b : Addr} {o : HO}, H7 b = some o → (∀ ps, o ≠ .tbl ps) → (∀ xs, o ≠ .lst xs) → H11 b = some o := fun {b o} e n n2 => k11 _ _ (nb (s10 _ _ (x9 _ _ (s8 _ _ e) n)) n2) (s10 _ _ (x9 _ _ (s8 _ _ e) n))
    have up9 : ∀ {b : Addr} {o : HO}, H9 b = some o → (∀ ps, o ≠ .tbl ps) → (∀ xs, o ≠ .lst xs) → H11 b = some o := fun {b o} e n n2 => k11 _ _ (nb (s10 _ _ e) n2) (s10 _ _ e)
    have p11 := y6 _ _ (x6 _ _ pw fun _ z => (nomatch z)) (fun _ z => (nomatch z)) (Ne.symm wlp)
    have tl11 := y6 _ _ (x6 _ _ tlw fun _ z => (nomatch z)) (fun _ z => (nomatch z)) (Ne.symm wltl)
    have D11 := y6 _ _ (x6 _ _ hv fun _ z => (nomatch z)) (fun _ z => (nomatch z)) (Ne.symm wlD)
    have o11a : H11 g1 = some O1 := up6 o6 (by rw [← hO1]; exact fun _ z => (nomatch z)) (by rw [← hO1]; exact fun _ z => (nomatch z))
    have c11a := up6 c6 (fun _ z => (nomatch z)) (fun _ z => (nomatch z))
    have o11b : H11 g2 = some O2 := up7 o7 (by rw [← hO2]; exact fun _ z => (nomatch z)) (by rw [← hO2]; exact fun _ z => (nomatch z))
    have c11b := up7 c7 (fun _ z => (nomatch z)) (fun _ z => (nomatch z))
    have o11c : H11 g3 = some O3 := up9 o9 (by rw [← hO3]; exact fun _ z => (nomatch z)) (by rw [← hO3]; exact fun _ z => (nomatch z))
    have c11c := up9 c9 (fun _ z => (nomatch z)) (fun _ z => (nomatch z))
    have T11 : Tabs T H11 := fun z hz => by
      obtain ⟨ps, h1, h2, h3⟩ := T10 z hz
      refine ⟨ps, k11 _ _ (nb h1 fun _ z => (nomatch z)) h1, h2, fun pos cv e => ?_⟩
      obtain ⟨c', e1, e2⟩ := h3 pos cv e
      exact ⟨c', e1, k11 _ _ (nb e2 fun _ z => (nomatch z)) e2⟩
    have pvs : ∀ v ∈ vals, PV K H11 v := fun v h => (pvs v h).tk tw
    clear up6 up7 up9 nb nwl y6 tw tk11 k11 wl10 e10 T10 s10 hw2 x9 T9 c9 o9 w8 T8 s8 hwl x7 T7 c7 o7 x6 T6 c6 o6 T5 tlw pw hv
    -- the belt
    refine ⟨_, rfl, small_sz (n := 3) (by decide), fun ll hll => ?_⟩
    have s12 := same_new (o := .lst [.int 1, .int 2, .non]) hll
    have e12 : (upd H11 ll (.lst [.int 1, .int 2, .non])) ll = some (.lst [.int 1, .int 2, .non]) := upd_same
    have llp : ll ≠ p := fun e => by
      rw [e, p11] at hll
      cases hll
    generalize upd H11 ll (.lst [.int 1, .int 2, .non]) = H12 at *
    refine ⟨p, ll, w1, w2, w3, _, rfl, s12 _ _ p11, SqL.of e12, by show 0 < 3; decide, by show 3 ≤ 1000; decide, fun a' b' c' => SqL.of ((upd_ne llp).trans e12), fun j size a' b' c' hj => ?_⟩
    obtain ⟨hsz, szv⟩ : (size = .non ∨ ∃ i : Int, size = .int i ∧ 1 ≤ i) ∧ SizeV size := by
      match j, hj with
      | 0, hj => cases hj; exact ⟨.inr ⟨1, rfl, by decide⟩, .inr ⟨1, rfl, by decide⟩⟩
      | 1, hj => cases hj; exact ⟨.inr ⟨2, rfl, by decide⟩, .inr ⟨2, rfl, by decide⟩⟩
      | 2, hj => cases hj; exact ⟨.inl rfl, .inl rfl⟩
    have P13 : PutP p H11 (upd H12 p (.lst [.int a', .int b', .int c'])) := (PutP.same s12 ⟨w1, w2, w3, p11⟩).trans .put
    have tk13 := P13.tk (K := K) ⟨w1, w2, w3, p11⟩
    have p13 : (upd H12 p (.lst [.int a', .int b', .int c'])) p = some (.lst [.int a', .int b', .int c']) := upd_same
    generalize upd H12 p (.lst [.int a', .int b', .int c']) = H13 at *
    have wl13 := P13.k _ _ wlp wl11
    have tl13 := P13.k _ _ tlp tl11
    have D13 := P13.k _ _ Dp D11
    have nO : ∀ {b : Addr} {o : HO}, H11 b = some o → (∀ xs, o ≠ .lst xs) → H13 b = some o := fun {b o} e n => P13.k _ _ (fun z => by
      rw [z, p11] at e
      exact n _ (Option.some.inj e).symm) e
    have o13a : H13 g1 = some O1 := nO o11a (by rw [← hO1]; exact fun _ z => (nomatch z))
    have c13a := nO c11a (fun _ z => (nomatch z))
    have o13b : H13 g2 = some O2 := nO o11b (by rw [← hO2]; exact fun _ z => (nomatch z))
    have c13b := nO c11b (fun _ z => (nomatch z))
    have o13c : H13 g3 = some O3 := nO o11c (by rw [← hO3]; exact fun _ z => (nomatch z))
    have c13c := nO c11c (fun _ z => (nomatch z))
    have pvs : ∀ v ∈ vals, PV K H13 v := fun v h => (pvs v h).tk tk13
    clear nO tk13 P13 e12 s12 hll llp hj o11a c11a o11b c11b o11c c11c wl11 tl11 D11 p11 T11
    -- the shop
    have one : 1 ≤ sizeLine := small_sz (n := 1) (by decide)
    refine ⟨_, rfl, fun d1 hd1 => ⟨upd_same, [(Sum.inr "n", .int 5)], rfl, (by show 1 ≤ 15; decide), one, fun l2 hl2 d2 hd2 => ⟨_, rfl, upd_same, [(Sum.inr "b", size)], rfl, (by show 1 ≤ 15; decide), rfl, rfl, fun sh dx a1 a2 a3 => ?_⟩⟩⟩
    have two : ∀ {G : Hp} {d : Addr} {kvs : List (Key × V)}, G d = none → Same G (upd (upd G d (.dK [])) d (.dK kvs)) := fun h b o e => by
      rw [upd_ne (ne_of_none e h), upd_ne (ne_of_none e h)]
      exact e
    have z2 := two (kvs := mergeK [] [(Sum.inr "n", .int 5)]) hd1
    have e2 : (upd (upd H13 d1 (.dK [])) d1 (.dK (mergeK [] [(Sum.inr "n", .int 5)]))) d1 = some (.dK [(Sum.inr "n", .int 5)]) := upd_same
    generalize upd (upd H13 d1 (.dK [])) d1 (.dK (mergeK [] [(Sum.inr "n", .int 5)])) = G2 at *
    have z3 := same_new (o := .lst [.str "l"]) hl2
    have e3 : (upd G2 l2 (.lst [.str "l"])) l2 = some (.lst [.str "l"]) := upd_same
    generalize upd G2 l2 (.lst [.str "l"]) = G3 at *
    have z4 := two (kvs := mergeK [] [(Sum.inr "b", size)]) hd2
    have e4 : (upd (upd G3 d2 (.dK [])) d2 (.dK (mergeK [] [(Sum.inr "b", size)]))) d2 = some (.dK [(Sum.inr "b", size)]) := upd_same
    generalize upd (upd G3 d2 (.dK [])) d2 (.dK (mergeK [] [(Sum.inr "b", size)])) = G4 at *
    have Z := z2.trans (z3.trans z4)
    refine mk_shop (SI := ⟨[.ref g1, .ref g2, .ref g3, .ref fG], [(Sum.inr "n", .int 5)], ["n"], ["l"], [(Sum.inr "b", size)], ["b"], 1, 1⟩) (wv := .ref wl) (cv := .ref d1) (lv := .ref l2) (bv := .ref d2) ⟨⟨wl, rfl, .inl (SqL.of (Z _ _ wl13))⟩, by show 1 ≤ 4; decide, by show 4 ≤ 4; decide, .inr ⟨d1, rfl, .inl (z4 _ _ (z3 _ _ e2))⟩, rfl, ⟨l2, rfl, .inl (SqL.of (z4 _ _ e3))⟩, .inr ⟨d2, rfl, .inl e4⟩, rfl, ?_, ?_, ?_, fun kv m H' _ => ?_, fun kv m => ?_, ⟨by show (1 : Int) ≤ 1; decide, by show (1 : Int) ≤ 40; decide⟩, ⟨by show (1 : Int) ≤ 1; decide, by show (1 : Int) ≤ 2000; decide⟩⟩ a1 a2 a3 fun wt cd lt bd G sG A => ⟨rfl, ?_⟩
    · show (["n", "l", "b"] : List Str).Nodup
      decide +kernel
    · have all : ∀ z ∈ (["n", "l", "b"] : List Str), isW z = true := by decide +kernel
      exact all
    · show 3 ≤ 64
      decide
    · rw [List.mem_singleton.mp m]
      exact Vn.int _ _
    · rw [List.mem_singleton.mp m]
      exact szv
    have SG := Z.trans sG
    generalize hS0 : (SIn.ss ⟨[.ref g1, .ref g2, .ref g3, .ref fG], [(Sum.inr "n", .int 5)], ["n"], ["l"], [(Sum.inr "b", size)], ["b"], 1, 1⟩ dx wt cd lt bd) = S0 at *
    have q1 : S0.works = [V.ref g1, .ref g2, .ref g3, .ref fG] := by rw [← hS0]; rfl
    have q2 : S0.cells = ([(Sum.inr "n", V.int 5)] : List (Key × V)) := by rw [← hS0]; rfl
    have q3 : S0.cellN = (["n"] : List Str) := by rw [← hS0]; rfl
    have q4 : S0.locks = (["l"] : List Str) := by rw [← hS0]; rfl
    have q5 : S0.beltN = (["b"] : List Str) := by rw [← hS0]; rfl
    have q6 : S0.belts = ([(Sum.inr "b", size)] : List (Key × V)) := by rw [← hS0]; rfl
    have q7 : S0.many = (4 : Nat) := by rw [← hS0]; rfl
    -- the run
    refine fun r dxr hr hdx hne => ?_
    have sM : Same G (upd (upd G dxr (.own r)) r (.ins CR dxr [])) := fun b o e => by
      rw [upd_ne (ne_of_none e hr), upd_ne (ne_of_none e hdx)]
      exact e
    have oM : (upd (upd G dxr (.own r)) r (.ins CR dxr [])) r = some (.ins CR dxr []) := upd_same
    have nsr : sh ≠ r := ne_of_none A.ob hr
    have S5 := SG.trans sM
    have A5 := A.same sM
    generalize upd (upd G dxr (.own r)) r (.ins CR dxr []) = G5 at *
    have npr : p ≠ r := fun e => by
      rw [← e, SG _ _ p13] at hr
      cases hr
    have ntr : tl ≠ r := fun e => by
      rw [← e, SG _ _ tl13] at hr
      cases hr
    have nDr : D ≠ r := fun e => by
      rw [← e, SG _ _ D13] at hr
      cases hr
    have o5a := S5 _ _ o13a
    have c5a := S5 _ _ c13a
    have o5b := S5 _ _ o13b
    have c5b := S5 _ _ c13b
    have o5c := S5 _ _ o13c
    have c5c := S5 _ _ c13c
    have p5 := S5 _ _ p13
    have tl5 := S5 _ _ tl13
    have D5 := S5 _ _ D13
    have pvs : ∀ v ∈ vals, PV K G5 v := fun v h => (pvs v h).tk (TK.of S5)
    obtain ⟨sm, hsm⟩ := sm_ex K G5
    clear z2 z3 z4 Z sG hS0 e2 e3 e4 two o13a c13a o13b c13b o13c c13c p13 tl13 D13 wl13 SG S5 sM A hr hdx hne hd1 hl2 hd2 a1 a2 a3
    have hi1 : g1 ∈ [g1, c1', g2, c2', g3, c3'] := List.mem_cons_self ..
    have hi2 : c1' ∈ [g1, c1', g2, c2', g3, c3'] := List.mem_cons_of_mem _ (List.mem_cons_self ..)
    have hi3 : g2 ∈ [g1, c1', g2, c2', g3, c3'] := List.mem_cons_of_mem _ (List.mem_cons_of_mem _ (List.mem_cons_self ..))
    have hi4 : c2' ∈ [g1, c1', g2, c2', g3, c3'] := List.mem_cons_of_mem _ (List.mem_cons_of_mem _ (List.mem_cons_of_mem _ (List.mem_cons_self ..)))
    have hi5 : g3 ∈ [g1, c1', g2, c2', g3, c3'] := List.mem_cons_of_mem _ (List.mem_cons_of_mem _ (List.mem_cons_of_mem _ (List.mem_cons_of_mem _ (List.mem_cons_self ..))))
    have hi6 : c3' ∈ [g1, c1', g2, c2', g3, c3'] := List.mem_cons_of_mem _ (List.mem_cons_of_mem _ (List.mem_cons_of_mem _ (List.mem_cons_of_mem _ (List.mem_cons_of_mem _ (List.mem_cons_self ..)))))
    have xL : ∀ {Hz : Hp}, Hz g1 = some O1 → Hz c1' = some (CodeO c1' qLaw) → Hz g2 = some O2 → Hz c2' = some (CodeO c2' qLaw) → Hz g3 = some O3 → Hz c3' = some (CodeO c3' qLaw) → ExtL Hz [g1, c1', g2, c2', g3, c3'] := fun {Hz} h1 h2 h3 h4 h5 h6 b hb => by
      rcases List.mem_cons.mp hb with rfl | hb
      · exact ⟨_, h1.trans (congrArg some hO1.symm)⟩
      rcases List.mem_cons.mp hb with rfl | hb
      · exact ⟨_, h2⟩
      rcases List.mem_cons.mp hb with rfl | hb
      · exact ⟨_, h3.trans (congrArg some hO2.symm)⟩
      rcases List.mem_cons.mp hb with rfl | hb
      · exact ⟨_, h4⟩
      rcases List.mem_cons.mp hb with rfl | hb
      · exact ⟨_, h5.trans (congrArg some hO3.symm)⟩
      rw [List.mem_singleton.mp hb]
      exact ⟨_, h6⟩
    have xcode : True := trivial
    have frees : ∀ (ps : List (Str × NameKind)), (∀ y ∈ ps, y.2 = .free → (defScope sLaw).names.lookup y.1 = some .cell) → ∀ y ∈ ps, y.2 = .free → ∃ c', (lawX P w K mg base f c A outer s H E).env.cells.lookup y.1 = some c' := fun ps h y hy e => cell_has (h y hy e)
    have wk : ∀ (σ : L2.St) (Hz : Hp) (B2 : Heap), σ[2]? = some (some (.ref tl)) → σ[3]? = some (some (.ref D)) → Known (lawX P w K mg base f c A outer s H E) σ Hz [g1, c1', g2, c2', g3, c3'] B2 → Hz g1 = some O1 → Hz c1' = some (CodeO c1' qLaw) → Hz g2 = some O2 → Hz c2' = some (CodeO c2' qLaw) → Hz g3 = some O3 → Hz c3' = some (CodeO c3' qLaw) →
        WorksG P w K mg B2 C CS CH (kw + 1) sm S0 (fs19 t0 t1 vals) (JL K G5 tl D [.int (t0 : Nat), .int (t1 : Nat)] vals) (AdW K G5) := fun σ Hz B2 hσ2 hσ3 kb h1 h2 h3 h4 h5 h6 i F hi => by
      have mn : ("n" : Str) ∈ S0.cellN := by rw [q3]; exact List.mem_singleton.mpr rfl
      have ml : ("l" : Str) ∈ S0.locks := by rw [q4]; exact List.mem_singleton.mpr rfl
      have mb : ("b" : Str) ∈ S0.beltN := by rw [q5]; exact List.mem_singleton.mpr rfl
      match i, hi with
      | 0, hi =>
        cases hi
        refine ⟨g1, by rw [q1]; rfl, work_count (HH := G5) (cloAt_of kb (h1.trans (congrArg some hO1.symm)) h2 hi1 hi2 rfl rfl rfl (by decide +kernel) rfl (fun y hy e => (NdefX.ndef_free (sc := defScope sLaw) (fr := []) (by decide +kernel) y hy e).elim (fun z => cell_has z) (fun z => absurd rfl (scLaw.nofree _ (PySem.mem_of_lookup z)))) cells_inj (fun i' x v e1 e2 => ?_) rfl (fun _ _ _ => rfl)) (fun A outer s H E hr => ?_) (fun H' j => SqL.of j.2.1) (idx := 0) rfl (by omega) mn⟩
        · match i', e1, e2 with
          | 0, e1, e2 =>
            cases e1
            cases e2
            exact ⟨rfl, 2, rfl, hσ2, rfl⟩
        · exact pe_call (GC B2 kb.old) hr rfl mC kC bC .nil (fun pins σ H s e s' I c => passAt (takes_of (E := E) rfl rfl rfl rfl) σ pins H s e s' I c) (pa_cons (pe_ix ix_list (pe_var (i := 1) rfl (.inr (.inr rfl))) pe_int (fun _ _ => rfl)) (pa_cons (pe_var (i := 0) rfl (.inl rfl)) pa_nil))
      | 1, hi =>
        cases hi
        refine ⟨g2, by rw [q1]; rfl, work_count (HH := G5) (cloAt_of kb (h3.trans (congrArg some hO2.symm)) h4 hi3 hi4 rfl rfl rfl (by decide +kernel) rfl (fun y hy e => (NdefX.ndef_free (sc := defScope sLaw) (fr := []) (by decide +kernel) y hy e).elim (fun z => cell_has z) (fun z => absurd rfl (scLaw.nofree _ (PySem.mem_of_lookup z)))) cells_inj (fun i' x v e1 e2 => ?_) rfl (fun _ _ _ => rfl)) (fun A outer s H E hr => ?_) (fun H' j => SqL.of j.2.1) (idx := 1) rfl (by omega) mn⟩
        · match i', e1, e2 with
          | 0, e1, e2 =>
            cases e1
            cases e2
            exact ⟨rfl, 2, rfl, hσ2, rfl⟩
        · exact pe_call (GC B2 kb.old) hr rfl mC kC bC .nil (fun pins σ H s e s' I c => passAt (takes_of (E := E) rfl rfl rfl rfl) σ pins H s e s' I c) (pa_cons (pe_ix ix_list (pe_var (i := 1) rfl (.inr (.inr rfl))) pe_int (fun _ _ => rfl)) (pa_cons (pe_var (i := 0) rfl (.inl rfl)) pa_nil))
      | 2, hi =>
        cases hi
        refine ⟨g3, by rw [q1]; rfl, work_hand (HH := G5) (cloAt_of kb (h5.trans (congrArg some hO3.symm)) h6 hi5 hi6 rfl rfl rfl (by decide +kernel) rfl (fun y hy e => (NdefX.ndef_free (sc := defScope sLaw) (fr := []) (by decide +kernel) y hy e).elim (fun z => cell_has z) (fun z => absurd rfl (scLaw.nofree _ (PySem.mem_of_lookup z)))) cells_inj (fun i' x v e1 e2 => ?_) rfl (fun _ _ _ => rfl)) (fun A outer s H E hr => ?_) (fun H' j => ⟨SqL.of j.2.2, j.1⟩) (by omega) pvs mb⟩
        · match i', e1, e2 with
          | 0, e1, e2 =>
            cases e1
            cases e2
            exact ⟨rfl, 3, rfl, hσ3, rfl⟩
        · exact pe_call (GH B2 kb.old) hr rfl mH kH bH .nil (fun pins σ H s e s' I c => passAt (takes_of (E := E) rfl rfl rfl rfl) σ pins H s e s' I c) (pa_cons (pe_var (i := 1) rfl (.inr (.inr rfl))) (pa_cons (pe_var (i := 0) rfl (.inl rfl)) pa_nil))
      | 3, hi =>
        cases hi
        refine ⟨fG, by rw [q1]; rfl, (work_get (GG B2 kb.old) bG ?_ (fun H' j => j.1) mb ml).room (by omega)⟩
        obtain ⟨fd, oc, od, os, e⟩ := aG
        exact ⟨fd, oc, od, os, kb.old _ _ e⟩
    clear frees xcode
    refine ⟨[g1, c1', g2, c2', g3, c3'], xL o5a c5a o5b c5b o5c c5c, fun B2 kb => ?_⟩
    have nx := NX.hid (xL o5a c5a o5b c5b o5c c5c)
    have tk5 : TK K G5 (hidL G5 [g1, c1', g2, c2', g3, c3']) := nx.sq
    have A0 : ∀ i, AdW K G5 i [] := fun i => match i with
      | 0 => ⟨Nat.zero_le _, fun i v h => (nomatch h)⟩
      | 1 => ⟨Nat.zero_le _, fun i v h => (nomatch h)⟩
      | 2 => Nat.zero_le _
      | _ + 3 => ⟨Nat.zero_le _, fun a h => (nomatch h)⟩
    refine new_st hx (wk _ _ _ rfl rfl kb o5a c5a o5b c5b o5c c5c) jl_st A0 (nx.shop A5) ⟨tk5, nx _ _ tl5 fun _ z => (nomatch z), nx _ _ D5 fun _ z => (nomatch z)⟩ (nx _ _ oM fun _ z => (nomatch z)) q7 (by show 4 ≤ 1000; decide) (by rw [q4]; exact List.nodup_cons.mpr ⟨List.not_mem_nil, List.nodup_nil⟩) (by rw [q5]; exact List.nodup_cons.mpr ⟨List.not_mem_nil, List.nodup_nil⟩) (by rw [q4]; show 1 ≤ 1000; decide) (by rw [q5]; show 1 ≤ 1000; decide) fun R G6 but f1 f2 RK => ⟨rfl, fun free => ?_⟩
    rw [q2, q4, q5, q6] at RK
    have k6 : ∀ b o, b ≠ r → G5 b = some o → (reL G5 G6 [g1, c1', g2, c2', g3, c3']) b = some o := fun b o n e => re_keep (Bad := fun b => b = r) (fun b o nb q => but b o nb q) b o n e
    have RK7 := RK.nx (H' := reL G5 G6 [g1, c1', g2, c2', g3, c3']) fun b o q _ => same_re free b o q
    have nho : ∀ {a : Addr}, hidL G5 [g1, c1', g2, c2', g3, c3'] a = none → ∀ b o, G5 b = some o → (∀ φ, o ≠ .ext φ) → b ≠ a := fun {a} h b o e n z => by
      have q := nx b o e n
      rw [z, h] at q
      cases q
    have npp : p ≠ R.pl := nho f1 _ _ p5 fun _ z => (nomatch z)
    have npd : p ≠ R.dn := nho f2 _ _ p5 fun _ z => (nomatch z)
    have nsp : sh ≠ R.pl := nho f1 _ _ A5.ob fun _ z => (nomatch z)
    have nsd : sh ≠ R.dn := nho f2 _ _ A5.ob fun _ z => (nomatch z)
    have ntp : tl ≠ R.pl := nho f1 _ _ tl5 fun _ z => (nomatch z)
    have ntd : tl ≠ R.dn := nho f2 _ _ tl5 fun _ z => (nomatch z)
    have nDp : D ≠ R.pl := nho f1 _ _ D5 fun _ z => (nomatch z)
    have nDd : D ≠ R.dn := nho f2 _ _ D5 fun _ z => (nomatch z)
    have nrO : ∀ {b : Addr} {o : HO}, G5 b = some o → (∀ c d fs, o ≠ .ins c d fs) → (reL G5 G6 [g1, c1', g2, c2', g3, c3']) b = some o := fun {b o} e n => k6 _ _ (fun z => by
      rw [z, oM] at e
      exact n _ _ _ (Option.some.inj e).symm) e
    have o6a := nrO o5a (by rw [← hO1]; exact fun _ _ _ z => (nomatch z))
    have c6a := nrO c5a (fun _ _ _ z => (nomatch z))
    have o6b := nrO o5b (by rw [← hO2]; exact fun _ _ _ z => (nomatch z))
    have c6b := nrO c5b (fun _ _ _ z => (nomatch z))
    have o6c := nrO o5c (by rw [← hO3]; exact fun _ _ _ z => (nomatch z))
    have c6c := nrO c5c (fun _ _ _ z => (nomatch z))
    have p6 := nrO p5 (fun _ _ _ z => (nomatch z))
    have tl6 := nrO tl5 (fun _ _ _ z => (nomatch z))
    have D6 := nrO D5 (fun _ _ _ z => (nomatch z))
    have tk6 : TK K G5 (reL G5 G6 [g1, c1', g2, c2', g3, c3']) := fun a xs q => by
      rcases q with (q | ⟨o, q⟩) | q
      · exact .inl (.inl (nrO q fun _ _ _ z => (nomatch z)))
      · exact .inl (.inr ⟨o, nrO q fun _ _ _ z => (nomatch z)⟩)
      · exact .inr q
    have A6 : ShopAt K CS (reL G5 G6 [g1, c1', g2, c2', g3, c3']) sh S0 := ⟨k6 _ _ nsr A5.ob, tk6 _ _ A5.w, nrO A5.c fun _ _ _ z => (nomatch z), A5.cn, tk6 _ _ A5.l, nrO A5.b fun _ _ _ z => (nomatch z), A5.bn⟩
    generalize reL G5 G6 [g1, c1', g2, c2', g3, c3'] = G7 at *
    generalize hpl : R.pl = pls at *
    generalize hdn : R.dn = dns at *
    have pv5 : PV K G5 size := by
      rcases hsz with rfl | ⟨i, rfl, _⟩
      · exact ⟨_, .non _⟩
      · exact ⟨_, .int _ _⟩
    have Z7 : LG K sm CR CT CP sh G5 r pls dns t0 t1 vals size G7 R ⟨[(Sum.inr "n", V.int 5)], (["l"] : List Str).map fun s => (Sum.inr s, V.non), ["b"], fun _ => [], [(Sum.inr "b", size)]⟩ [] [] [] [] [] := by
      refine ⟨RK7, ⟨_, _, _, _, _, _, _, _, _, LI.new rfl rfl rfl (valV_pos rfl)⟩, ⟨rfl, rfl, rfl, fun nm m => ?_, fun nm m => ?_, fun nm m => ?_, fun nm m v hv => (nomatch hv), fun nm m => Nat.zero_le _, by decide⟩, fun a h => (nomatch h), hpl, hdn, fun s h => (nomatch h)⟩
      · rw [List.mem_singleton.mp m]
        exact ⟨_, .int _ _⟩
      · rw [List.mem_singleton.mp m]
        exact .inl rfl
      · rw [List.mem_singleton.mp m]
        refine ⟨size, valV_pos rfl, ?_⟩
        rcases hsz with rfl | ⟨i, rfl, _⟩
        · exact .inl rfl
        · exact .inr ⟨i, rfl⟩
    clear RK RK7 but free nrO nho k6 f1 f2 o5a c5a o5b c5b o5c c5c p5 tl5 D5 A5 oM nx tk5 kb A0
    -- the run is led
    refine ⟨_, rfl, _, rfl, [g1, c1', g2, c2', g3, c3'], xL o6a c6a o6b c6b o6c c6c, fun B3 kb => ?_⟩
    have Wk := wk _ _ _ rfl rfl kb o6a c6a o6b c6b o6c c6c
    have nx := NX.hid (xL o6a c6a o6b c6b o6c c6c)
    have Z8 := Z7.nx nx
    have A8 := nx.shop A6
    have J8 : JL K G5 tl D [.int (t0 : Nat), .int (t1 : Nat)] vals (hidL G7 [g1, c1', g2, c2', g3, c3']) := ⟨tk6.trans nx.sq, nx _ _ tl6 fun _ z => (nomatch z), nx _ _ D6 fun _ z => (nomatch z)⟩
    have p8 : Nm3 p (hidL G7 [g1, c1', g2, c2', g3, c3']) := ⟨_, _, _, nx _ _ p6 fun _ z => (nomatch z)⟩
    refine ⟨r, p, 200, fun i H' => ∃ (R' : RS) (S' : Sto) (b0 b1 b2 b3 : List V) (steps : StepL), LG K sm CR CT CP sh G5 r pls dns t0 t1 vals size H' R' S' b0 b1 b2 b3 steps ∧ steps.length = i ∧ Nm3 p H' ∧ Frm (BadL p r pls dns) (hidL G7 [g1, c1', g2, c2', g3, c3']) H', rfl, by decide, ⟨_, _, _, _, _, _, _, Z8, rfl, p8, .of fun _ _ e => e⟩, fun i H1 hi iv => ?_, fun H1 iv => ?_⟩
    rotate_left
    · obtain ⟨R', S', b0, b1, b2, b3, steps, Z, ls, _⟩ := iv
      obtain ⟨l0, r0, l1, r1, p0, p1, q, said, f, li⟩ := Z.li
      have := li.bound t08 t18 bv
      omega
    obtain ⟨R', S', b0, b1, b2, b3, steps, Z, ls, n3, F⟩ := iv
    have ns : ¬ BadL p r pls dns sh := fun z => z.elim (fun z => by
      obtain ⟨x, y, z', q⟩ := p8
      have o8 := A8.ob
      rw [z, q] at o8
      cases o8) fun z => z.elim nsr fun z => z.elim nsp nsd
    have nt : ¬ BadL p r pls dns tl := fun z => z.elim tlp fun z => z.elim ntr fun z => z.elim ntp ntd
    have nD : ¬ BadL p r pls dns D := fun z => z.elim Dp fun z => z.elim nDr fun z => z.elim nDp nDd
    have R1 := Z.run.run.at_
    refine ⟨⟨R'.dx, _, R1.ob, rF_no (by decide +kernel) (by decide +kernel) (by decide +kernel) (by decide +kernel)⟩, canL sm S' (fs19 t0 t1 vals) [b0, b1, b2, b3], 4, Nat.le_refl _, ?_⟩
    have len4 : R'.places.length = 4 := Z.run.len
    have cg := Z.run.can (J8.1.trans F.tk) hsm rfl (Z.wishes pvs) Z.so fun i F ans h1 h2 => canL_at h1 h2
    refine ⟨r, R', _, rfl, R1, by omega, cg, fun D2 H2 hD2 s2 e2 => ⟨D2, rfl, by rw [← len4]; exact e2, fun e => ?_, fun H3 s3 => ⟨fun en => ?_, ?_, ⟨R'.dx, _, s3 _ _ (s2 _ _ R1.ob), rF_no (by decide +kernel) (by decide +kernel) (by decide +kernel) (by decide +kernel)⟩, fun k hk a b c => ?_⟩⟩⟩
    · obtain ⟨x, y, z, q⟩ := n3
      rw [e, q] at hD2
      cases hD2
    rotate_left
    · obtain ⟨x, y, z, q⟩ := n3
      exact ⟨x, y, z, s3 _ _ (s2 _ _ q)⟩
    · have Pg : PutP p H1 (upd H3 p (.lst [.int a, .int b, .int c])) := (PutP.same (s2.trans s3) n3).trans .put
      have Fg : Frm (BadL p r pls dns) H1 (upd H3 p (.lst [.int a, .int b, .int c])) := Pg.frm n3 (.inl rfl)
      have F3 := F.trans Fg
      have Zg := Z.put Pg n3 (Ne.symm npr) (Ne.symm npp) (Ne.symm npd)
      have ng := Pg.p
      obtain ⟨k4, ck⟩ := upN_mem _ _ _ hk
      obtain ⟨Fk, hFk⟩ : ∃ Fk, (fs19 t0 t1 vals)[k]? = some Fk := ⟨_, List.getElem?_eq_getElem (by show k < 4; exact k4)⟩
      obtain ⟨ans, hans⟩ : ∃ ans, ([b0, b1, b2, b3] : List (List V))[k]? = some ans := ⟨_, List.getElem?_eq_getElem (by show k < 4; exact k4)⟩
      rw [canL_at hFk hans] at ck
      generalize upd H3 p (.lst [.int a, .int b, .int c]) = Hg at *
      refine go_long hx Wk jl_st SK (shop_frm F3 ns A8) (jl_frm F3 nt nD J8) (J8.1.trans F3.tk) hsm Zg t08 t18 bv nv pvs hFk hans ck fun a' R2 H5 S2 c0 c1 c2 c3 s b3' Z2 => ?_
      exact ⟨R2, S2, c0, c1, c2, c3, _, Z2, by rw [List.length_append, ls]; rfl, num_but npr npp npd b3' ng, F3.trans (frm_but Zg b3')⟩
    -- it is over
    intro free
    have F23 : Frm (BadL p r pls dns) (hidL G7 [g1, c1', g2, c2', g3, c3']) H3 := F.trans (.of (s2.trans s3))
    have k9 : ∀ b o, ¬ BadL p r pls dns b → G7 b = some o → (reL G7 H3 [g1, c1', g2, c2', g3, c3']) b = some o := fun b o nb e => re_keep (Bad := BadL p r pls dns) (fun b o nb q => F23.l b o nb q) b o nb e
    have sr : Same H3 (reL G7 H3 [g1, c1', g2, c2', g3, c3']) := same_re free
    have Z9 : LG K sm CR CT CP sh G5 r pls dns t0 t1 vals size (reL G7 H3 [g1, c1', g2, c2', g3, c3']) R' S' b0 b1 b2 b3 steps := Z.nx fun b o e _ => sr _ _ ((s2.trans s3) _ _ e)
    have tl9 := k9 _ _ nt tl6
    have D9 := k9 _ _ nD D6
    have tk9 : TK K G5 (reL G7 H3 [g1, c1', g2, c2', g3, c3']) := (J8.1.trans F23.tk).trans (TK.of sr)
    generalize reL G7 H3 [g1, c1', g2, c2', g3, c3'] = H9 at *
    have no : ∀ k, k < 4 → canL sm S' (fs19 t0 t1 vals) [b0, b1, b2, b3] k = false := upN_none _ 4 en
    have lim : steps.length ≤ 1000 := by omega
    have ld : R'.done.length = steps.length := Z9.run.dn
    refine ⟨_, rfl, iteF ?_⟩
    clear F23 k9 sr kb nx Z8 A8 J8 p8 Wk F n3 R1 Z cg s2 s3 e2 hD2 free en ns nt nD o6a c6a o6b c6b o6c c6c p6 tl6 D6 tk6 A6 Z7
    -- the steps
    refine ⟨_, rfl, r, R'.dx, _, rfl, Z9.run.run.at_.ob, rF_no (by decide +kernel) (by decide +kernel) (by decide +kernel) (by decide +kernel), ?_⟩
    refine ⟨r, R', rfl, Z9.run.run.at_, fun l Ha hl sa ea => ?_⟩
    have Za : LG K sm CR CT CP sh G5 r pls dns t0 t1 vals size Ha R' S' b0 b1 b2 b3 steps := Z9.nx fun b o e _ => sa _ _ e
    have tla := sa _ _ tl9
    have Da := sa _ _ D9
    have tka := tk9.trans (TK.of sa)
    clear Z9 tl9 D9 tk9 sa hl
    -- a step, as it lies there
    have st : ∀ (i : Nat) (x : V) (s : Nat × List V × V) (G : Hp), R'.done[i]? = some x → steps[i]? = some s → Same Ha G → ∃ t wt kind rest, x = .ref t ∧ SqT K G t [.int (s.1 : Nat), .ref wt, s.2.2] ∧ SqT K G wt (.str kind :: rest) ∧ s.2.1 = .str kind :: rest := fun i x s G h1 h2 sg => by
      obtain ⟨t, wt, q1, q2, q3⟩ := Za.run.st i x s h1 h2
      obtain ⟨kind, rest, q4⟩ := Za.hd s (List.mem_of_getElem? h2)
      rw [q4] at q3
      exact ⟨t, wt, kind, rest, q1, seqT_same sg q2, seqT_same sg q3, q4⟩
    have tri : ∀ (σ : L2.St) (k : Nat) (i : Nat) (x : V) (s : Nat × List V × V) (G : Hp) (kk : Bool → Hp → Prop), σ[10]? = some (some x) → σ[4]? = some (some (.int (k : Nat))) → R'.done[i]? = some x → steps[i]? = some s → Same Ha G → kk (trS k s) G → tStep1 K σ G kk := fun σ k i x s G kk h10 h4 h1 h2 sg q => by
      obtain ⟨t, wt, kind, rest, rfl, e1, e2, e3⟩ := st i x s G h1 h2 sg
      unfold trS at q
      rw [e3] at q
      have ed : decide (V.int (s.1 : Nat) = V.int (k : Nat)) = decide (s.1 = k) := by
        by_cases c : s.1 = k
        · rw [c, decide_eq_true rfl, decide_eq_true rfl]
        · rw [decide_eq_false c, decide_eq_false (fun z => by injection z with z; omega)]
      refine ⟨_, h10, t, _, 0, .int (s.1 : Nat), rfl, rfl, e1, rfl, _, h4, rfl, _, congrArg V.bl ed, ?_⟩
      cases c : decide (s.1 = k) with
      | false =>
        rw [c] at q
        exact iteF q
      | true =>
        rw [c] at q
        refine iteT ⟨_, h10, t, _, 1, .ref wt, rfl, rfl, e1, rfl, wt, _, 0, .str kind, rfl, rfl, e2, atI_nat (j := 0) rfl, rfl, _, rfl, ?_⟩
        have eh : decide ((V.str kind :: rest).head? = some (V.str "trade")) = decide (V.str kind = V.str "trade") := by
          show decide (some (V.str kind) = some (V.str "trade")) = _
          by_cases c2 : V.str kind = V.str "trade"
          · rw [decide_eq_true c2, decide_eq_true (congrArg some c2)]
          · rw [decide_eq_false c2, decide_eq_false (fun z => c2 (Option.some.inj z))]
        rw [eh] at q
        exact q
    have dni : ∀ (σ : L2.St) (k : Nat) (i : Nat) (x : V) (s : Nat × List V × V) (G : Hp) (kk : Bool → Hp → Prop), σ[10]? = some (some x) → σ[4]? = some (some (.int (k : Nat))) → R'.done[i]? = some x → steps[i]? = some s → Same Ha G → kk (dnS k s) G → tStep2 K σ G kk := fun σ k i x s G kk h10 h4 h1 h2 sg q => by
      obtain ⟨t, wt, kind, rest, rfl, e1, e2, e3⟩ := st i x s G h1 h2 sg
      unfold dnS at q
      have ed : decide (V.int (s.1 : Nat) = V.int (k : Nat)) = decide (s.1 = k) := by
        by_cases c : s.1 = k
        · rw [c, decide_eq_true rfl, decide_eq_true rfl]
        · rw [decide_eq_false c, decide_eq_false (fun z => by injection z with z; omega)]
      refine ⟨_, h10, t, _, 0, .int (s.1 : Nat), rfl, rfl, e1, rfl, _, h4, rfl, _, congrArg V.bl ed, ?_⟩
      cases c : decide (s.1 = k) with
      | false =>
        rw [c] at q
        exact iteF q
      | true =>
        rw [c] at q
        exact iteT ⟨_, h10, t, _, 2, s.2.2, rfl, rfl, e1, rfl, rfl, _, rfl, q⟩
    -- how many were tried
    have two : ∀ (σ : L2.St) (pr : Nat → Nat × List V × V → Bool) (tt : TT) (G : Hp) (Q : VK), σ.length = 14 → σ[8]? = some (some (.ref l)) → Same Ha G →
        (∀ (σ : L2.St) (k : Nat) (i : Nat) (x : V) (s : Nat × List V × V) (G : Hp) (kk : Bool → Hp → Prop), σ[10]? = some (some x) → σ[4]? = some (some (.int (k : Nat))) → R'.done[i]? = some x → steps[i]? = some s → Same Ha G → kk (pr k s) G → tt σ G kk) →
        (∀ E2 G2, G E2 = none → Same G G2 → G2 E2 = some (.lst [.int (cnt (pr 0) steps : Nat), .int (cnt (pr 1) steps : Nat)]) → Q (.ref E2) G2) →
        tLc (iRng1 (tCons (tC (.int 2)) tNil)) (gName 4) tYes (tCntL K tt) [4] σ G Q := fun σ pr tt G Q lσ h8 sG ht q => by
      match σ, lσ with
      | [v0, v1, v2, v3, v4, v5, v6, v7, v8, v9, v10, v11, v12, v13], _ =>
        cases h8
        refine ⟨(2 : Nat), rfl, by decide, by decide, fun E2 hE2 => ?_⟩
        refine lc_range (lo := 0) (n := 2) (fun i H' => Same G H' ∧ H' E2 = some (.lst ((([0, 1] : List Nat).take i).map fun k => V.int (cnt (pr k) steps : Nat)))) ⟨same_new hE2, upd_same⟩ (fun i Hw hi z => ?_) (fun Hw z => ?_)
        · obtain ⟨sw, ew⟩ := z
          refine ⟨rfl, yesI (iteT ?_)⟩
          refine cnt_lc (l := l) (xs := R'.done) (steps := steps) (pr := pr i) rfl rfl (fun _ => rfl) (fun _ => rfl) ((sG.trans sw) _ _ ea) ld lim (fun j x s G2 kk h1 h2 sg qq => ht _ i j x s G2 kk rfl (by rw [Int.zero_add]; rfl) h1 h2 ((sG.trans sw).trans sg) qq) fun G2 sg => ?_
          refine ⟨_, sg _ _ ew, ?_, fun b o e => ?_, ?_⟩
          · rw [List.length_map]
            rw [List.length_take]
            exact Nat.lt_of_lt_of_le (Nat.lt_of_le_of_lt (Nat.min_le_right _ _) (by decide : 2 < 3)) (small_sz (n := 3) (by decide))
          · rw [upd_ne (ne_of_none e hE2)]
            exact sg _ _ (sw _ _ e)
          · rw [upd_same]
            match i, hi with
            | 0, _ => rfl
            | 1, _ => rfl
        · exact q E2 Hw hE2 z.1 z.2
    have two2 : ∀ (σ : L2.St) (pr : Nat → Nat × List V × V → Bool) (tt : TT) (j : Nat) (rest : L2.TS) (DD : Ends) (G : Hp), σ.length = 14 → σ[8]? = some (some (.ref l)) → Same Ha G →
        (∀ (σ : L2.St) (k : Nat) (i : Nat) (x : V) (s : Nat × List V × V) (G : Hp) (kk : Bool → Hp → Prop), σ[10]? = some (some x) → σ[4]? = some (some (.int (k : Nat))) → R'.done[i]? = some x → steps[i]? = some s → Same Ha G → kk (pr k s) G → tt σ G kk) →
        (∀ E2 G2, G E2 = none → Same G G2 → G2 E2 = some (.lst [.int (cnt (pr 0) steps : Nat), .int (cnt (pr 1) steps : Nat)]) → rest DD (σ.set j (some (.ref E2))) G2) →
        tSeq (tAsg (tLc (iRng1 (tCons (tC (.int 2)) tNil)) (gName 4) tYes (tCntL K tt) (([("_law_k", 4)] : List (Str × Nat)).map (·.2))) (gName j)) rest DD σ G := fun σ pr tt j rest DD G h1 h2 h3 h4 q => two σ pr tt G (fun x H1 => gName j x σ H1 (rest DD)) h1 h2 h3 h4 q
    refine gset ?_
    refine two2 _ trS (tStep1 K) 9 _ _ Ha rfl rfl (fun _ _ e => e) tri fun E1 Hb hE1 sb eb => ?_
    refine two2 _ dnS (tStep2 K) 11 _ _ Hb rfl rfl sb dni fun E2 Hc hE2 sc ec => ?_
    have zx : ∀ {Hz : Hp}, Same Ha Hz → LG K sm CR CT CP sh G5 r pls dns t0 t1 vals size Hz R' S' b0 b1 b2 b3 steps := fun {Hz} s => Za.nx fun b o e _ => s _ _ e
    have sbc := sb.trans sc
    obtain ⟨y0, y1, y2, y3, ePl, d0, d1, d2, d3, ew, n0, n1, hn, hl, hb⟩ := Za.over nv hsz no
    have so := Za.so
    have thc : R'.T.cells = S'.cells := Za.run.th.c
    have thh : R'.T.holders = S'.holders := Za.run.th.h
    have ckey : R'.T.cells.map (·.1) = (["n"] : List Str).map Sum.inr := by rw [thc]; exact so.ck
    have hkey : R'.T.holders.map (·.1) = (["l"] : List Str).map Sum.inr := by rw [thh]; exact so.hk
    have rkey : R'.T.rows.map (·.1) = (["b"] : List Str).map Sum.inr := by rw [Za.run.th.r.keys, so.bk]
    have hcell : valV R'.T.cells (Sum.inr "n") = some (.int ((5 + t0 + t1 : Nat) : Int)) := by
      rw [thc, ← hn]
      exact val_of so.ck (List.mem_singleton.mpr rfl)
    have hhold : valV R'.T.holders (Sum.inr "l") = some .non := by
      rw [thh, ← hl]
      exact val_of so.hk (List.mem_singleton.mpr rfl)
    obtain ⟨ab, hrow, hab⟩ := Za.run.th.r.at_ "b" (by rw [so.bk]; exact List.mem_singleton.mpr rfl)
    rw [hb] at hab
    have ra : ∀ {Hz : Hp}, Same Ha Hz → RunAt K CR CT CP Hz r R' := fun {Hz} s => (zx s).run.run.at_
    have no1 : ∀ {m : Str} {v0 v1 v2 v3 : V}, ¬ m = ("shop" : Str) → ¬ m = ("things" : Str) → ¬ m = ("places" : Str) → ¬ m = ("done" : Str) → (rF v0 v1 v2 v3).lookup m = none := fun a b c d => rF_no a b c d
    rw [n0, n1] at ec
    refine ⟨_, rfl, r, R'.dx, _, rfl, (ra sbc).ob, rF_no (by decide +kernel) (by decide +kernel) (by decide +kernel) (by decide +kernel), r, R', .str "n", ["n"], true, rfl, ra sbc, ckey, .inl ⟨_, rfl, by decide +kernel⟩, fun z => (nomatch z), fun _ => ⟨"n", _, rfl, hcell, ?_⟩⟩
    refine ⟨_, rfl, two_sz, fun u1 hu1 => ?_⟩
    have sd := same_new (o := .lst [.int ((5 + t0 + t1 : Nat) : Int), .ref E2]) hu1
    have eu1 : (upd Hc u1 (.lst [.int ((5 + t0 + t1 : Nat) : Int), .ref E2])) u1 = some (.lst [.int ((5 + t0 + t1 : Nat) : Int), .ref E2]) := upd_same
    generalize upd Hc u1 (.lst [.int ((5 + t0 + t1 : Nat) : Int), .ref E2]) = Hd at *
    have sad := sbc.trans sd
    have tld := sad _ _ tla
    refine ⟨_, rfl, tl, [((t0 : Nat) : Int), ((t1 : Nat) : Int)], rfl, SqL.of tld, _, _, rfl, rfl, _, rfl, two_sz, fun u2 hu2 => ?_⟩
    have se := same_new (o := .lst [.int (5 + [((t0 : Nat) : Int), ((t1 : Nat) : Int)].sum), .ref tl]) hu2
    have eu2 : (upd Hd u2 (.lst [.int (5 + [((t0 : Nat) : Int), ((t1 : Nat) : Int)].sum), .ref tl])) u2 = some (.lst [.int (5 + [((t0 : Nat) : Int), ((t1 : Nat) : Int)].sum), .ref tl]) := upd_same
    generalize upd Hd u2 (.lst [.int (5 + [((t0 : Nat) : Int), ((t1 : Nat) : Int)].sum), .ref tl]) = He at *
    have es : 5 + [((t0 : Nat) : Int), ((t1 : Nat) : Int)].sum = ((5 + t0 + t1 : Nat) : Int) := by
      show 5 + (((t0 : Nat) : Int) + (((t1 : Nat) : Int) + 0)) = _
      omega
    rw [es] at eu2
    have sae := sad.trans se
    refine ⟨_, _, rfl, .lst (n := 7) (SqL.of (se _ _ eu1)) (SqL.of eu2) rfl (by show 2 ≤ 1000; decide) fun i x z a b => ?_, fun Hf sf => ⟨_, rfl, iteF ?_⟩⟩
    · match i, a, b with
      | 0, a, b => cases a; cases b; exact .int _ _
      | 1, a, b =>
        cases a
        cases b
        refine .lst (n := 6) (SqL.of ((sd.trans se) _ _ ec)) (SqL.of (se _ _ tld)) rfl (by show 2 ≤ 1000; decide) fun i x z a b => ?_
        match i, a, b with
        | 0, a, b => cases a; cases b; exact .int _ _
        | 1, a, b => cases a; cases b; exact .int _ _
    have saf := sae.trans sf
    -- none stands
    have len4' : R'.places.length ≤ 1000 := by omega
    have dps : ∀ {Hz : Hp}, Same Ha Hz → DpAll K Hz (R'.places.map PS.fin) [.tuple [.str "told", .int (cnt (trS 0) steps : Nat)], .tuple [.str "told", .int (cnt (trS 1) steps : Nat)], .tuple [.str "told", .int (vals.length : Nat)], .tuple [.str "told", .str "all"]] := fun {Hz} s => by
      rw [ePl]
      exact .cons ((d0.same s).dp (.int _)) (.cons ((d1.same s).dp (.int _)) (.cons ((d2.same s).dp (.int _)) (.cons ((d3.same s).dp (.str _)) .nil)))
    refine ⟨_, rfl, r, R'.dx, _, rfl, (ra saf).ob, rF_no (by decide +kernel) (by decide +kernel) (by decide +kernel) (by decide +kernel), r, R', canL sm S' (fs19 t0 t1 vals) [b0, b1, b2, b3], _, rfl, ra saf, len4', (zx saf).run.can (tka.trans (TK.of saf)) hsm rfl ((zx saf).wishes pvs) so (fun i F ans h1 h2 => canL_at h1 h2), dps saf, told_lay, fun H' s => dps (saf.trans s), fun Hg sg => ?_⟩
    refine ⟨false, congrArg V.bl (Bool.and_false _), iteF ?_⟩
    have e1g := (sc.trans (sd.trans (se.trans (sf.trans sg)))) _ _ eb
    have sag := saf.trans sg
    clear sf hu1 hu2 eu1 eu2 sd se sad sae tld es sg saf sbc sc sb ec eb hE1 hE2 tri dni two two2 st
    -- what is due
    have Dg := sag _ _ Da
    refine ⟨_, rfl, E1, _, 0, _, rfl, rfl, SqL.of e1g, rfl, two_sz, fun x1 hx1 => ?_⟩
    have w1 := same_new (o := .tup [.str "told", .int (cnt (trS 0) steps : Nat)]) hx1
    have m1 : (upd Hg x1 (.tup [.str "told", .int (cnt (trS 0) steps : Nat)])) x1 = some (.tup [.str "told", .int (cnt (trS 0) steps : Nat)]) := upd_same
    generalize upd Hg x1 (.tup [.str "told", .int (cnt (trS 0) steps : Nat)]) = I1 at *
    refine ⟨_, rfl, E1, _, 1, _, rfl, rfl, SqL.of (w1 _ _ e1g), rfl, two_sz, fun x2 hx2 => ?_⟩
    have w2 := same_new (o := .tup [.str "told", .int (cnt (trS 1) steps : Nat)]) hx2
    have m2 : (upd I1 x2 (.tup [.str "told", .int (cnt (trS 1) steps : Nat)])) x2 = some (.tup [.str "told", .int (cnt (trS 1) steps : Nat)]) := upd_same
    generalize upd I1 x2 (.tup [.str "told", .int (cnt (trS 1) steps : Nat)]) = I2 at *
    refine ⟨_, rfl, D, vals, rfl, .inl (SqL.of (w2 _ _ (w1 _ _ Dg))), two_sz, fun x3 hx3 => ⟨two_sz, fun x4 hx4 => ⟨four_sz, fun x5 hx5 => ?_⟩⟩⟩
    have w3 := same_new (o := .tup [.str "told", .int (vals.length : Nat)]) hx3
    have m3 : (upd I2 x3 (.tup [.str "told", .int (vals.length : Nat)])) x3 = some (.tup [.str "told", .int (vals.length : Nat)]) := upd_same
    generalize upd I2 x3 (.tup [.str "told", .int (vals.length : Nat)]) = I3 at *
    have w4 := same_new (o := .tup [.str "told", .str "all"]) hx4
    have m4 : (upd I3 x4 (.tup [.str "told", .str "all"])) x4 = some (.tup [.str "told", .str "all"]) := upd_same
    generalize upd I3 x4 (.tup [.str "told", .str "all"]) = I4 at *
    have w5 := same_new (o := .tup [.ref x1, .ref x2, .ref x3, .ref x4]) hx5
    have m5 : (upd I4 x5 (.tup [.ref x1, .ref x2, .ref x3, .ref x4])) x5 = some (.tup [.ref x1, .ref x2, .ref x3, .ref x4]) := upd_same
    generalize upd I4 x5 (.tup [.ref x1, .ref x2, .ref x3, .ref x4]) = I5 at *
    have w45 := w4.trans w5
    have w35 := w3.trans w45
    have w25 := w2.trans w35
    have m4 := w5 _ _ m4
    have m3 := w45 _ _ m3
    have m2 := w35 _ _ m2
    have m1 := w25 _ _ m1
    have s5 := (sag.trans w1).trans w25
    clear w1 w2 w3 w4 w5 w45 w35 w25 hx1 hx2 hx3 hx4 hx5 e1g Dg sag
    -- what the run tells
    refine ⟨_, rfl, r, R'.dx, _, rfl, (ra s5).ob, rF_no (by decide +kernel) (by decide +kernel) (by decide +kernel) (by decide +kernel), r, R', rfl, ra s5, len4', fun te I6 _ s6 e6 => ?_⟩
    have s56 := s5.trans s6
    rw [ePl] at e6
    refine ⟨_, rfl, r, R'.dx, _, rfl, (ra s56).ob, rF_no (by decide +kernel) (by decide +kernel) (by decide +kernel) (by decide +kernel), r, R', .int ((3 : Nat) : Int), true, rfl, ra s56, whl_i, fun z => (nomatch z), fun _ => ⟨_, rfl, fun n y en ey => ?_, fun z => absurd ⟨by omega, by omega⟩ z⟩⟩
    obtain rfl : 3 = n := by omega
    rw [ePl] at ey
    obtain rfl : y3 = y := Option.some.inj ey
    refine ⟨_, rfl, r, R'.dx, _, rfl, (ra s56).ob, rF_no (by decide +kernel) (by decide +kernel) (by decide +kernel) (by decide +kernel), r, R', .str "l", ["l"], true, rfl, ra s56, hkey, .inl ⟨_, rfl, by decide +kernel⟩, fun z => (nomatch z), fun _ => ⟨"l", _, rfl, hhold, ?_⟩⟩
    refine ⟨_, rfl, r, R'.dx, _, rfl, (ra s56).ob, rF_no (by decide +kernel) (by decide +kernel) (by decide +kernel) (by decide +kernel), r, R', .str "b", ["b"], true, rfl, ra s56, rkey, .inl ⟨_, rfl, by decide +kernel⟩, fun z => (nomatch z), fun _ => ⟨"b", _, rfl, hrow, ?_⟩⟩
    refine ⟨_, rfl, r, R'.dx, _, rfl, (ra s56).ob, rF_no (by decide +kernel) (by decide +kernel) (by decide +kernel) (by decide +kernel), r, R', steps.map fun s => V.int (s.1 : Nat), rfl, ra s56, by omega, by rw [List.length_map, ld], fun i x a h1 h2 => ?_, fun tt I7 s7 e7 => ?_⟩
    · rw [List.getElem?_map] at h2
      obtain ⟨s, hs, rfl⟩ := Option.map_eq_some_iff.mp h2
      obtain ⟨t, wt, q1, q2, q3⟩ := (zx s56).run.st i x s h1 hs
      exact ⟨t, _, _, q1, q2⟩
    have s57 := s56.trans s7
    refine ⟨tt, _, rfl, .inr e7, small_sz (n := 5) (by decide), fun u8 hu8 => ?_⟩
    rw [show ((steps.map fun s => V.int (s.1 : Nat)).length : Nat) = steps.length from List.length_map ..]
    have s8 := same_new (o := .lst [.ref te, .ref y3.tw, .non, .ref ab, .int (steps.length : Nat)]) hu8
    have e8 : (upd I7 u8 (.lst [.ref te, .ref y3.tw, .non, .ref ab, .int (steps.length : Nat)])) u8 = some (.lst [.ref te, .ref y3.tw, .non, .ref ab, .int (steps.length : Nat)]) := upd_same
    generalize upd I7 u8 (.lst [.ref te, .ref y3.tw, .non, .ref ab, .int (steps.length : Nat)]) = I8 at *
    have s58 := s57.trans s8
    -- both are the same
    refine ⟨_, rfl, _, rfl, _, rfl, D, vals, rfl, .inl (SqL.of (s58 _ _ Da)), fun tv I9 s9 e9 => ?_⟩
    refine ⟨Nat.zero_le _, fun u9 hu9 => ?_⟩
    have s59 := s58.trans s9
    have sA := same_new (o := .tup []) hu9
    have eA : (upd I9 u9 (.tup [])) u9 = some (.tup []) := upd_same
    generalize upd I9 u9 (.tup []) = IA at *
    refine ⟨_, rfl, l, R'.done, rfl, .inl (SqL.of ((s59.trans sA) _ _ ea)), small_sz (n := 5) (by decide), fun uB huB => ?_⟩
    rw [ld]
    have sB := same_new (o := .lst [.ref x5, .ref tv, .non, .ref u9, .int (steps.length : Nat)]) huB
    have eB : (upd IA uB (.lst [.ref x5, .ref tv, .non, .ref u9, .int (steps.length : Nat)])) uB = some (.lst [.ref x5, .ref tv, .non, .ref u9, .int (steps.length : Nat)]) := upd_same
    generalize upd IA uB (.lst [.ref x5, .ref tv, .non, .ref u9, .int (steps.length : Nat)]) = IB at *
    have sAB := sA.trans sB
    have s9B := s9.trans sAB
    have s8B := s8.trans s9B
    have s7B := s7.trans s8B
    have s6B := s6.trans s7B
    have sE := s5.trans s6B
    refine ⟨_, _, rfl, .lst (n := 7) (SqL.of (s9B _ _ e8)) (SqL.of eB) rfl (by show 5 ≤ 1000; decide) fun i x z a b => ?_, fun IC _ => k IC⟩
    match i, a, b with
    | 0, a, b =>
      cases a
      cases b
      refine .tup (n := 6) (SqT.of (s7B _ _ e6)) (SqT.of (s6B _ _ m5)) rfl (by show 4 ≤ 1000; decide) fun i x z a b => ?_
      match i, a, b with
      | 0, a, b => cases a; cases b; exact (d0.same sE).tw (SqT.of (s6B _ _ m1)) (.int _ _)
      | 1, a, b => cases a; cases b; exact (d1.same sE).tw (SqT.of (s6B _ _ m2)) (.int _ _)
      | 2, a, b => cases a; cases b; exact (d2.same sE).tw (SqT.of (s6B _ _ m3)) (.int _ _)
      | 3, a, b => cases a; cases b; exact (d3.same sE).tw (SqT.of (s6B _ _ m4)) (.str _ _)
    | 1, a, b =>
      cases a
      cases b
      have hw := (ra sE).e y3 (by rw [ePl]; exact List.mem_of_getElem? (i := 3) rfl)
      have hw := hw.w
      rw [ew] at hw
      refine .tup (n := 6) hw (seqT_same sAB e9) rfl (by omega) fun i x z a b => ?_
      obtain rfl := Option.some.inj (a.symm.trans b)
      exact (((pvs x (List.mem_of_getElem? a)).tk (tka.trans (TK.of sE))).tw (H := IB) (.of fun _ _ e => e)).le (by decide)
    | 2, a, b => cases a; cases b; exact .non _
    | 3, a, b =>
      cases a
      cases b
      exact .tup (n := 6) (seqT_same sE hab) (SqT.of (sB _ _ eA)) rfl (Nat.zero_le _) fun i x z a b => (nomatch a)
    | 4, a, b => cases a; cases b; exact .int _ _
end
end TW
namespace TW
open PySem PySem.Spec PyProof.Rows L2
section
variable {P : Program} {w : World} {K : PySem.W.Frag} {mg : Str → Option Value} {base : Heap} {CR CT CP CW : Addr} {n : Nat}
abbrev s_holder : Stmt := inClass (top 52) 8
theorem sc_holder : FnScope ["self", "name"] ["self", "name"] (defScope s_holder) := ⟨rfl, rfl, rfl, by decide +kernel, rfl, by decide +kernel, by decide +kernel⟩
theorem ok_holder {f fT CN : Addr} {fd fdT : FuncData} (F : Fun K "holder" "Run.holder" s_holder f fd) (X : RTxt K CR) (XT : TTxt K CT) (G : FnOk P w K mg base (L2.CX P w) 3 fT fdT ["names", "name"] (spCkT K CN)) (mT : mg "check_thing" = some (.ref fT)) (kT : PySem.W.keepIn K (.ref fT) = true) (bT : Binds K fdT ["names", "name"] []) :
    FnOk P w K mg base (L2.CX P w) 4 f fd ["self", "name"] (spCellOf K CR CT CP CN (fun T => T.holders)) := by
  refine F.okX sc_holder (fun vs H Q E h => ?_) (fun cdv A outer s H vs Q E hr h => ?_)
  · obtain ⟨r, R, y, l, b, rfl, _⟩ := h
    rfl
  · obtain ⟨r, R, y, l, b, rfl, hR, hl, hA, k1, k2⟩ := h
    have hu := hu_of hr
    refine ⟨_, pss_cons (ps_expr (pe_callS G hr rfl mT kT bT (fun σ => passAt (takes_of (E := E) rfl rfl rfl rfl) σ) (pa_cons (pe_fld (pe_fld (pv 0) rfl) rfl) (pa_cons (pv 1) pa_nil))))
      (pss_one (ps_ret (pe_dget hu (pe_fld (pe_fld (pv 0) rfl) rfl) (pv 1) (fun _ _ => rfl)))), ?_⟩
    refine ⟨_, rfl, r, CR, R.dx, _, _, rfl, hR.ob, X.cl, X.things, rF_get1, R.th, CT, R.T.dx, _, _, rfl, hR.t.ob, XT.cl, XT.holders, tF_get1, _, rfl, .ref R.T.hd, y, l, b, rfl, .inl ⟨R.T.hd, R.T.holders, rfl, .inl hR.t.h, hl⟩, hA, fun hb => ?_, k1⟩
    obtain ⟨nm, v, rfl, e, hq⟩ := k2 hb
    exact ⟨_, rfl, r, CR, R.dx, _, _, rfl, hR.ob, X.cl, X.things, rF_get1, R.th, CT, R.T.dx, _, _, rfl, hR.t.ob, XT.cl, XT.holders, tF_get1, _, rfl, R.T.hd, v, rfl, e ▸ DGet.k (k := Sum.inr nm) hR.t.h, hq⟩
end
end TW
namespace TWHead
open PySem PySem.Spec PySem.W PySem.Calls PyProof.Rows L2 TW
theorem toFun {K : Frag} {x qual : PySem.Str} {st : Stmt} {kws : List (PySem.Str × V)} {f : Addr} {fd : FuncData} (F : FunD K x qual (defArgs st) (defBody st) (defScope st) [] kws f fd) : Fun K x qual st f fd := by
  obtain ⟨⟨oc, od, dV, kV, doc, pm, an, cdv, ct, osl, e, lk, hcd, hD, hK⟩, kp⟩ := F
  rcases hD with ⟨_, rfl⟩ | ⟨z, _⟩
  · exact ⟨⟨oc, od, kV, doc, pm, an, cdv, ct, osl, e, lk, hcd⟩, kp⟩
  · exact absurd rfl z
theorem fun_two {K : Frag} {qual f : PySem.Str} {st : Stmt} {fI : Addr} {fd : FuncData} (F : Fun K "__init__" qual st fI fd)
    (bp : ∀ (kV dc pm : Value) (an : Option Addr) (cd ct u v : Value), bindArgs (fnOf "__init__" qual (defArgs st) (defBody st) (defScope st) .none kV dc pm an cd ct) ⟨[u, v], []⟩ = pure [(("self" : PySem.Str), u), (f, v)])
    (bk : ∀ (kV dc pm : Value) (an : Option Addr) (cd ct u v : Value), bindArgs (fnOf "__init__" qual (defArgs st) (defBody st) (defScope st) .none kV dc pm an cd ct) ⟨[u], [(f, v)]⟩ = pure [(("self" : PySem.Str), u), (f, v)]) :
    (∀ (s : Shared) (u v : Value), BindsTo s fd ⟨[u, v], []⟩ [("self", u), (f, v)]) ∧ ∀ (s : Shared) (u v : Value), BindsTo s fd ⟨[u], [(f, v)]⟩ [("self", u), (f, v)] := by
  obtain ⟨oc, od, kV, doc, pm, an, cdv, ct, osl, rfl, lk, hcd⟩ := F.ex
  exact ⟨fun s u v => .of_eq (bp kV doc pm an cdv ct u v), fun s u v => .of_eq (bk kV doc pm an cdv ct u v)⟩
theorem binds_of {K : Frag} {x qual : PySem.Str} {st : Stmt} {f : Addr} {fd : FuncData} {y : PySem.Str} (F : Fun K x qual st f fd) (b : ∀ (kV dc pm : Value) (an : Option Addr) (cd ct u : Value), bindArgs (fnOf x qual (defArgs st) (defBody st) (defScope st) .none kV dc pm an cd ct) ⟨[u], []⟩ = pure [(y, u)]) :
    ∀ (s : Shared) (u : Value), BindsTo s fd ⟨[u], []⟩ [(y, u)] := by
  obtain ⟨oc, od, kV, doc, pm, an, cdv, ct, osl, rfl, lk, hcd⟩ := F.ex
  exact fun s u => .of_eq (b kV doc pm an cdv ct u)
/-- the law's def with its code object -/
theorem toFunC {K : Frag} {x qual : PySem.Str} {st : Stmt} {p : PySem.Str × Option PySem.Str} {fd : FuncData} (F : Fun K x qual st (He.fAd K p) fd) : FunC K x qual st (He.fAd K p) fd (He.codeOf K p) := by
  obtain ⟨oc, od, kV, doc, pm, an, cdv, ct, osl, rfl, lk, hcd⟩ := F.ex
  obtain ⟨c, rfl⟩ := He.codeIn_ref hcd
  have e := He.codeOf_eq lk (c := c) rfl
  rw [e]
  exact ⟨⟨oc, od, kV, doc, pm, an, ct, osl, rfl, lk, hcd⟩, F.kp⟩
theorem fnAt_K {K : Frag} {x qual : PySem.Str} {st : Stmt} {f : Addr} {fd : FuncData} {base : Heap} (F : Fun K x qual st f fd) (X : K.In base) : FnAt f base := by
  obtain ⟨oc, od, kV, doc, pm, an, cdv, ct, osl, rfl, lk, hcd⟩ := F.ex
  exact ⟨_, _, _, _, X _ _ lk⟩
theorem pick_by {A : Type} : ∀ l : List (Addr × A), (l.map Prod.fst).Nodup → (∀ p ∈ l, l.lookup p.1 = some p.2) ∧ ∀ f y, l.lookup f = some y → (f, y) ∈ l
  | [], _ => ⟨fun _ h => (nomatch h), fun _ _ h => (nomatch h)⟩
  | (a, b) :: l, nd => by
    obtain ⟨n1, n2⟩ := List.nodup_cons.mp nd
    obtain ⟨i1, i2⟩ := pick_by l n2
    refine ⟨fun p hp => ?_, fun f y h => ?_⟩
    · rcases List.mem_cons.mp hp with rfl | hp
      · rw [List.lookup_cons, beq_self_eq_true]
      · have ne : (p.1 == a) = false := beq_false_of_ne fun e => n1 (e ▸ List.mem_map.mpr ⟨p, hp, rfl⟩)
        rw [List.lookup_cons, ne]
        exact i1 p hp
    · rw [List.lookup_cons] at h
      split at h
      · rename_i e
        rw [eq_of_beq e, Option.some.inj h]
        exact List.mem_cons_self ..
      · exact List.mem_cons_of_mem _ (i2 f y h)
theorem cx_of {P : Program} {w : World} {K : Frag} {mg : PySem.Str → Option Value} {base : Heap} {k : Nat} {f : Addr} {fd : FuncData} {ps : List PySem.Str} {sp : Sp} (F : FnOk P w K mg base CX0 k f fd ps sp) : FnOk P w K mg base (fun _ _ _ _ _ _ => False) k f fd ps sp := F
theorem kb_all {K : Frag} {t0 f : Addr} {fd : FuncData} (F : FunSI K t0 f fd) : KBn K fd psSI 2 ["cells", "locks", "belts", "longest", "most"] (fun us ws => us ++ ws) (fun vs zs => vs ++ zs) := by
  obtain ⟨mv, h⟩ := F.kbinds0 (ps := psSI) 2 ["cells", "locks", "belts", "longest", "most"] [] (fun us mv ws => us ++ ws) (by unfold shopKw; exact List.cons_ne_nil _ _) (fun q h => (nomatch h)) (fun a b c => a.append c)
    fun D doc pm an cdv ct us mv ws h1 h2 h3 => match us, mv, ws, h1, h2, h3 with
      | [_, _], [], [_, _, _, _, _], _, _, _ => rfl
  exact h
theorem at_end (w : World) (mg : PySem.Str → Option Value) (fa' : Addr) (h : Heap) (K : Frag) (KX : K.In h) (c : He.SaysX fa fn ts tf ex w h K) (G : h.Ns mainGlobals mg) (hmg : mg "law" = some (.ref fa')) :
    LamX.LawAtS PySem.Challenge.rw_turnways_k19_long_runs w K CX0 23 63 "_law_script" mg fa' h := by
  have cd := c.t.d
  have g_BadWorks : mg "BadWorks" = some (.ref (He.ga K "BadWorks")) := He.glo_ok KX G (cd.fact 19 (f := .glo "BadWorks") rfl)
  have g_BadName : mg "BadName" = some (.ref (He.ga K "BadName")) := He.glo_ok KX G (cd.fact 20 (f := .glo "BadName") rfl)
  have g_BadValue : mg "BadValue" = some (.ref (He.ga K "BadValue")) := He.glo_ok KX G (cd.fact 21 (f := .glo "BadValue") rfl)
  have g_BadSize : mg "BadSize" = some (.ref (He.ga K "BadSize")) := He.glo_ok KX G (cd.fact 22 (f := .glo "BadSize") rfl)
  have g_BadLimit : mg "BadLimit" = some (.ref (He.ga K "BadLimit")) := He.glo_ok KX G (cd.fact 23 (f := .glo "BadLimit") rfl)
  have g_NoThing : mg "NoThing" = some (.ref (He.ga K "NoThing")) := He.glo_ok KX G (cd.fact 24 (f := .glo "NoThing") rfl)
  have g_NotHeld : mg "NotHeld" = some (.ref (He.ga K "NotHeld")) := He.glo_ok KX G (cd.fact 25 (f := .glo "NotHeld") rfl)
  have g_NoWork : mg "NoWork" = some (.ref (He.ga K "NoWork")) := He.glo_ok KX G (cd.fact 26 (f := .glo "NoWork") rfl)
  have g_CanNot : mg "CanNot" = some (.ref (He.ga K "CanNot")) := He.glo_ok KX G (cd.fact 27 (f := .glo "CanNot") rfl)
  have g_is_whole : mg "is_whole" = some (.ref (He.ga K "is_whole")) := He.glo_ok KX G (cd.fact 28 (f := .glo "is_whole") rfl)
  have g_is_word : mg "is_word" = some (.ref (He.ga K "is_word")) := He.glo_ok KX G (cd.fact 29 (f := .glo "is_word") rfl)
  have g_is_value : mg "is_value" = some (.ref (He.ga K "is_value")) := He.glo_ok KX G (cd.fact 30 (f := .glo "is_value") rfl)
  have g_same : mg "same" = some (.ref (He.ga K "same")) := He.glo_ok KX G (cd.fact 31 (f := .glo "same") rfl)
  have g_check_value : mg "check_value" = some (.ref (He.ga K "check_value")) := He.glo_ok KX G (cd.fact 32 (f := .glo "check_value") rfl)
  have g_check_thing : mg "check_thing" = some (.ref (He.ga K "check_thing")) := He.glo_ok KX G (cd.fact 33 (f := .glo "check_thing") rfl)
  have g_check_going : mg "check_going" = some (.ref (He.ga K "check_going")) := He.glo_ok KX G (cd.fact 34 (f := .glo "check_going") rfl)
  have g_check_call : mg "check_call" = some (.ref (He.ga K "check_call")) := He.glo_ok KX G (cd.fact 35 (f := .glo "check_call") rfl)
  have g_halt : mg "halt" = some (.ref (He.ga K "halt")) := He.glo_ok KX G (cd.fact 36 (f := .glo "halt") rfl)
  have g_ask : mg "ask" = some (.ref (He.ga K "ask")) := He.glo_ok KX G (cd.fact 37 (f := .glo "ask") rfl)
  have g_Hand : mg "Hand" = some (.ref (He.ga K "Hand")) := He.glo_ok KX G (cd.fact 38 (f := .glo "Hand") rfl)
  have g_Place : mg "Place" = some (.ref (He.ga K "Place")) := He.glo_ok KX G (cd.fact 39 (f := .glo "Place") rfl)
  have g_returned : mg "returned" = some (.ref (He.ga K "returned")) := He.glo_ok KX G (cd.fact 40 (f := .glo "returned") rfl)
  have g_come : mg "come" = some (.ref (He.ga K "come")) := He.glo_ok KX G (cd.fact 41 (f := .glo "come") rfl)
  have g_Things : mg "Things" = some (.ref (He.ga K "Things")) := He.glo_ok KX G (cd.fact 42 (f := .glo "Things") rfl)
  have g_first_things : mg "first_things" = some (.ref (He.ga K "first_things")) := He.glo_ok KX G (cd.fact 43 (f := .glo "first_things") rfl)
  have g_things_again : mg "things_again" = some (.ref (He.ga K "things_again")) := He.glo_ok KX G (cd.fact 44 (f := .glo "things_again") rfl)
  have g_has_room : mg "has_room" = some (.ref (He.ga K "has_room")) := He.glo_ok KX G (cd.fact 45 (f := .glo "has_room") rfl)
  have g_need_not_wait : mg "need_not_wait" = some (.ref (He.ga K "need_not_wait")) := He.glo_ok KX G (cd.fact 46 (f := .glo "need_not_wait") rfl)
  have g_do_nothing : mg "do_nothing" = some (.ref (He.ga K "do_nothing")) := He.glo_ok KX G (cd.fact 47 (f := .glo "do_nothing") rfl)
  have g_do_look : mg "do_look" = some (.ref (He.ga K "do_look")) := He.glo_ok KX G (cd.fact 48 (f := .glo "do_look") rfl)
  have g_do_put : mg "do_put" = some (.ref (He.ga K "do_put")) := He.glo_ok KX G (cd.fact 49 (f := .glo "do_put") rfl)
  have g_do_swap : mg "do_swap" = some (.ref (He.ga K "do_swap")) := He.glo_ok KX G (cd.fact 50 (f := .glo "do_swap") rfl)
  have g_do_trade : mg "do_trade" = some (.ref (He.ga K "do_trade")) := He.glo_ok KX G (cd.fact 51 (f := .glo "do_trade") rfl)
  have g_do_take : mg "do_take" = some (.ref (He.ga K "do_take")) := He.glo_ok KX G (cd.fact 52 (f := .glo "do_take") rfl)
  have g_do_give : mg "do_give" = some (.ref (He.ga K "do_give")) := He.glo_ok KX G (cd.fact 53 (f := .glo "do_give") rfl)
  have g_do_reach : mg "do_reach" = some (.ref (He.ga K "do_reach")) := He.glo_ok KX G (cd.fact 54 (f := .glo "do_reach") rfl)
  have g_do_lay : mg "do_lay" = some (.ref (He.ga K "do_lay")) := He.glo_ok KX G (cd.fact 55 (f := .glo "do_lay") rfl)
  have g_do_fetch : mg "do_fetch" = some (.ref (He.ga K "do_fetch")) := He.glo_ok KX G (cd.fact 56 (f := .glo "do_fetch") rfl)
  have g_do_step : mg "do_step" = some (.ref (He.ga K "do_step")) := He.glo_ok KX G (cd.fact 57 (f := .glo "do_step") rfl)
  have g_place_of : mg "place_of" = some (.ref (He.ga K "place_of")) := He.glo_ok KX G (cd.fact 58 (f := .glo "place_of") rfl)
  have g_can_go : mg "can_go" = some (.ref (He.ga K "can_go")) := He.glo_ok KX G (cd.fact 59 (f := .glo "can_go") rfl)
  have g_Run : mg "Run" = some (.ref (He.ga K "Run")) := He.glo_ok KX G (cd.fact 60 (f := .glo "Run") rfl)
  have g_check_works : mg "check_works" = some (.ref (He.ga K "check_works")) := He.glo_ok KX G (cd.fact 61 (f := .glo "check_works") rfl)
  have g_check_names : mg "check_names" = some (.ref (He.ga K "check_names")) := He.glo_ok KX G (cd.fact 62 (f := .glo "check_names") rfl)
  have g_check_size : mg "check_size" = some (.ref (He.ga K "check_size")) := He.glo_ok KX G (cd.fact 63 (f := .glo "check_size") rfl)
  have g_check_limit : mg "check_limit" = some (.ref (He.ga K "check_limit")) := He.glo_ok KX G (cd.fact 64 (f := .glo "check_limit") rfl)
  have g_copied : mg "copied" = some (.ref (He.ga K "copied")) := He.glo_ok KX G (cd.fact 65 (f := .glo "copied") rfl)
  have g_Shop : mg "Shop" = some (.ref (He.ga K "Shop")) := He.glo_ok KX G (cd.fact 66 (f := .glo "Shop") rfl)
  have g__law_source : mg "_law_source" = some (.ref (He.ga K "_law_source")) := He.glo_ok KX G (cd.fact 67 (f := .glo "_law_source") rfl)
  have g__law_draw : mg "_law_draw" = some (.ref (He.ga K "_law_draw")) := He.glo_ok KX G (cd.fact 68 (f := .glo "_law_draw") rfl)
  have g__law_pick : mg "_law_pick" = some (.ref (He.ga K "_law_pick")) := He.glo_ok KX G (cd.fact 69 (f := .glo "_law_pick") rfl)
  have g__law_same : mg "_law_same" = some (.ref (He.ga K "_law_same")) := He.glo_ok KX G (cd.fact 70 (f := .glo "_law_same") rfl)
  have g__law_counting : mg "_law_counting" = some (.ref (He.ga K "_law_counting")) := He.glo_ok KX G (cd.fact 71 (f := .glo "_law_counting") rfl)
  have g__law_handing : mg "_law_handing" = some (.ref (He.ga K "_law_handing")) := He.glo_ok KX G (cd.fact 72 (f := .glo "_law_handing") rfl)
  have g__law_getting : mg "_law_getting" = some (.ref (He.ga K "_law_getting")) := He.glo_ok KX G (cd.fact 73 (f := .glo "_law_getting") rfl)
  have g__law_led : mg "_law_led" = some (.ref (He.ga K "_law_led")) := He.glo_ok KX G (cd.fact 74 (f := .glo "_law_led") rfl)
  have g_law : mg "law" = some (.ref (He.ga K "law")) := He.glo_ok KX G (cd.fact 75 (f := .glo "law") rfl)
  have g_Held : mg "Held" = some (.ref (He.ga K "Held")) := He.glo_ok KX G (cd.fact 76 (f := .glo "Held") rfl)
  have g_STEPS : mg "STEPS" = some (.ref (He.ga K "STEPS")) := He.glo_ok KX G (cd.fact 77 (f := .glo "STEPS") rfl)
  have e := hmg.symm.trans g_law
  cases e
  have B : Blt mg := ⟨He.free_ok KX G (cd.fact 0 (f := .free "len") rfl), He.free_ok KX G (cd.fact 1 (f := .free "int") rfl), He.free_ok KX G (cd.fact 2 (f := .free "bool") rfl), He.free_ok KX G (cd.fact 3 (f := .free "str") rfl), He.free_ok KX G (cd.fact 4 (f := .free "list") rfl), He.free_ok KX G (cd.fact 5 (f := .free "tuple") rfl), He.free_ok KX G (cd.fact 6 (f := .free "dict") rfl), He.free_ok KX G (cd.fact 7 (f := .free "isinstance") rfl), He.free_ok KX G (cd.fact 8 (f := .free "all") rfl), He.free_ok KX G (cd.fact 9 (f := .free "zip") rfl), He.free_ok KX G (cd.fact 10 (f := .free "range") rfl), He.free_ok KX G (cd.fact 11 (f := .free "sorted") rfl), He.free_ok KX G (cd.fact 12 (f := .free "enumerate") rfl)⟩
  have mSet : mg "set" = none := He.free_ok KX G (cd.fact 13 (f := .free "set") rfl)
  have mSum : mg "sum" = none := He.free_ok KX G (cd.fact 14 (f := .free "sum") rfl)
  obtain ⟨u_LONGEST_WORD, i_LONGEST_WORD⟩ := He.int_ok KX G (cd.fact 15 (f := .int "LONGEST_WORD" 8) rfl)
  obtain ⟨u_MOST_WORKS, i_MOST_WORKS⟩ := He.int_ok KX G (cd.fact 16 (f := .int "MOST_WORKS" 4) rfl)
  obtain ⟨u_TOP_LONGEST, i_TOP_LONGEST⟩ := He.int_ok KX G (cd.fact 17 (f := .int "TOP_LONGEST" 40) rfl)
  obtain ⟨u_TOP_MOST, i_TOP_MOST⟩ := He.int_ok KX G (cd.fact 18 (f := .int "TOP_MOST" 2000) rfl)
  obtain ⟨d_eBadWorks, D_eBadWorks⟩ := cd.def_ 0 rfl
  have F_eBadWorks : Fun K "__init__" "BadWorks.__init__" (inClass (top 3) 0) (He.fAd K ("BadWorks", some "__init__")) d_eBadWorks := toFun (st := (inClass (top 3) 0)) D_eBadWorks
  obtain ⟨d_eBadName, D_eBadName⟩ := cd.def_ 1 rfl
  have F_eBadName : Fun K "__init__" "BadName.__init__" (inClass (top 4) 0) (He.fAd K ("BadName", some "__init__")) d_eBadName := toFun (st := (inClass (top 4) 0)) D_eBadName
  obtain ⟨d_eBadValue, D_eBadValue⟩ := cd.def_ 2 rfl
  have F_eBadValue : Fun K "__init__" "BadValue.__init__" (inClass (top 5) 0) (He.fAd K ("BadValue", some "__init__")) d_eBadValue := toFun (st := (inClass (top 5) 0)) D_eBadValue
  obtain ⟨d_eBadSize, D_eBadSize⟩ := cd.def_ 3 rfl
  have F_eBadSize : Fun K "__init__" "BadSize.__init__" (inClass (top 6) 0) (He.fAd K ("BadSize", some "__init__")) d_eBadSize := toFun (st := (inClass (top 6) 0)) D_eBadSize
  obtain ⟨d_eBadLimit, D_eBadLimit⟩ := cd.def_ 4 rfl
  have F_eBadLimit : Fun K "__init__" "BadLimit.__init__" (inClass (top 7) 0) (He.fAd K ("BadLimit", some "__init__")) d_eBadLimit := toFun (st := (inClass (top 7) 0)) D_eBadLimit
  obtain ⟨d_eNoThing, D_eNoThing⟩ := cd.def_ 5 rfl
  have F_eNoThing : Fun K "__init__" "NoThing.__init__" (inClass (top 8) 0) (He.fAd K ("NoThing", some "__init__")) d_eNoThing := toFun (st := (inClass (top 8) 0)) D_eNoThing
  obtain ⟨d_eNotHeld, D_eNotHeld⟩ := cd.def_ 6 rfl
  have F_eNotHeld : Fun K "__init__" "NotHeld.__init__" (inClass (top 9) 0) (He.fAd K ("NotHeld", some "__init__")) d_eNotHeld := toFun (st := (inClass (top 9) 0)) D_eNotHeld
  obtain ⟨d_eNoWork, D_eNoWork⟩ := cd.def_ 7 rfl
  have F_eNoWork : Fun K "__init__" "NoWork.__init__" (inClass (top 10) 0) (He.fAd K ("NoWork", some "__init__")) d_eNoWork := toFun (st := (inClass (top 10) 0)) D_eNoWork
  obtain ⟨d_eCanNot, D_eCanNot⟩ := cd.def_ 8 rfl
  have F_eCanNot : Fun K "__init__" "CanNot.__init__" (inClass (top 11) 0) (He.fAd K ("CanNot", some "__init__")) d_eCanNot := toFun (st := (inClass (top 11) 0)) D_eCanNot
  obtain ⟨d_whole, D_whole⟩ := cd.def_ 9 rfl
  have F_whole : Fun K "is_whole" "is_whole" (top 15) (He.fAd K ("is_whole", none)) d_whole := toFun (st := (top 15)) D_whole
  have b_whole : L2.Binds K d_whole ["given"] [] := F_whole.binds fun _ _ _ _ _ _ us hl => match us, hl with | [_], _ => rfl
  obtain ⟨d_word, D_word⟩ := cd.def_ 10 rfl
  have F_word : Fun K "is_word" "is_word" (top 16) (He.fAd K ("is_word", none)) d_word := toFun (st := (top 16)) D_word
  have b_word : L2.Binds K d_word ["given"] [] := F_word.binds fun _ _ _ _ _ _ us hl => match us, hl with | [_], _ => rfl
  obtain ⟨d_isv, D_isv⟩ := cd.def_ 11 rfl
  have F_isv : Fun K "is_value" "is_value" (top 17) (He.fAd K ("is_value", none)) d_isv := toFun (st := (top 17)) D_isv
  have b_isv : L2.Binds K d_isv ["given"] [] := F_isv.binds fun _ _ _ _ _ _ us hl => match us, hl with | [_], _ => rfl
  obtain ⟨d_same, D_same⟩ := cd.def_ 12 rfl
  have F_same : Fun K "same" "same" (top 18) (He.fAd K ("same", none)) d_same := toFun (st := (top 18)) D_same
  have b_same : L2.Binds K d_same ["one", "other"] [] := F_same.binds fun _ _ _ _ _ _ us hl => match us, hl with | [_, _], _ => rfl
  obtain ⟨d_ckv, D_ckv⟩ := cd.def_ 13 rfl
  have F_ckv : Fun K "check_value" "check_value" (top 19) (He.fAd K ("check_value", none)) d_ckv := toFun (st := (top 19)) D_ckv
  have b_ckv : L2.Binds K d_ckv ["given"] [] := F_ckv.binds fun _ _ _ _ _ _ us hl => match us, hl with | [_], _ => rfl
  obtain ⟨d_ckt, D_ckt⟩ := cd.def_ 14 rfl
  have F_ckt : Fun K "check_thing" "check_thing" (top 20) (He.fAd K ("check_thing", none)) d_ckt := toFun (st := (top 20)) D_ckt
  have b_ckt : L2.Binds K d_ckt ["names", "name"] [] := F_ckt.binds fun _ _ _ _ _ _ us hl => match us, hl with | [_, _], _ => rfl
  obtain ⟨d_going, D_going⟩ := cd.def_ 15 rfl
  have F_going : Fun K "check_going" "check_going" (top 22) (He.fAd K ("check_going", none)) d_going := toFun (st := (top 22)) D_going
  have b_going : L2.Binds K d_going ["hand"] [] := F_going.binds fun _ _ _ _ _ _ us hl => match us, hl with | [_], _ => rfl
  obtain ⟨d_ccall, D_ccall⟩ := cd.def_ 16 rfl
  have F_ccall : Fun K "check_call" "check_call" (top 23) (He.fAd K ("check_call", none)) d_ccall := toFun (st := (top 23)) D_ccall
  obtain ⟨d_halt, D_halt⟩ := cd.def_ 17 rfl
  have F_halt : Fun K "halt" "halt" (top 24) (He.fAd K ("halt", none)) d_halt := toFun (st := (top 24)) D_halt
  have b_halt : L2.Binds K d_halt ["hand"] [] := F_halt.binds fun _ _ _ _ _ _ us hl => match us, hl with | [_], _ => rfl
  obtain ⟨d_ask, D_ask⟩ := cd.def_ 18 rfl
  have F_ask : Fun K "ask" "ask" (top 25) (He.fAd K ("ask", none)) d_ask := toFun (st := (top 25)) D_ask
  have b_ask : L2.Binds K d_ask ["hand", "wish"] [] := F_ask.binds fun _ _ _ _ _ _ us hl => match us, hl with | [_, _], _ => rfl
  obtain ⟨d_HI, D_HI⟩ := cd.def_ 19 rfl
  have F_HI : Fun K "__init__" "Hand.__init__" (inClass (top 26) 0) (He.fAd K ("Hand", some "__init__")) d_HI := toFun (st := (inClass (top 26) 0)) D_HI
  have b_HI : L2.Binds K d_HI ["self", "shop", "me", "answers"] [] := F_HI.binds fun _ _ _ _ _ _ us hl => match us, hl with | [_, _, _, _], _ => rfl
  obtain ⟨d_look, D_look⟩ := cd.def_ 20 rfl
  have F_look : Fun K "look" "Hand.look" (inClass (top 26) 1) (He.fAd K ("Hand", some "look")) d_look := toFun (st := (inClass (top 26) 1)) D_look
  have b_look : L2.Binds K d_look ["self", "cell"] [] := F_look.binds fun _ _ _ _ _ _ us hl => match us, hl with | [_, _], _ => rfl
  obtain ⟨d_put, D_put⟩ := cd.def_ 21 rfl
  have F_put : Fun K "put" "Hand.put" (inClass (top 26) 2) (He.fAd K ("Hand", some "put")) d_put := toFun (st := (inClass (top 26) 2)) D_put
  have b_put : L2.Binds K d_put ["self", "cell", "value"] [] := F_put.binds fun _ _ _ _ _ _ us hl => match us, hl with | [_, _, _], _ => rfl
  obtain ⟨d_swap, D_swap⟩ := cd.def_ 22 rfl
  have F_swap : Fun K "swap" "Hand.swap" (inClass (top 26) 3) (He.fAd K ("Hand", some "swap")) d_swap := toFun (st := (inClass (top 26) 3)) D_swap
  have b_swap : L2.Binds K d_swap ["self", "cell", "value"] [] := F_swap.binds fun _ _ _ _ _ _ us hl => match us, hl with | [_, _, _], _ => rfl
  obtain ⟨d_trade, D_trade⟩ := cd.def_ 23 rfl
  have F_trade : Fun K "trade" "Hand.trade" (inClass (top 26) 4) (He.fAd K ("Hand", some "trade")) d_trade := toFun (st := (inClass (top 26) 4)) D_trade
  have b_trade : L2.Binds K d_trade ["self", "cell", "old", "value"] [] := F_trade.binds fun _ _ _ _ _ _ us hl => match us, hl with | [_, _, _, _], _ => rfl
  obtain ⟨d_until, D_until⟩ := cd.def_ 24 rfl
  have F_until : Fun K "until" "Hand.until" (inClass (top 26) 5) (He.fAd K ("Hand", some "until")) d_until := toFun (st := (inClass (top 26) 5)) D_until
  have b_until : L2.Binds K d_until ["self", "cell", "value"] [] := F_until.binds fun _ _ _ _ _ _ us hl => match us, hl with | [_, _, _], _ => rfl
  obtain ⟨d_take, D_take⟩ := cd.def_ 25 rfl
  have F_take : Fun K "take" "Hand.take" (inClass (top 26) 6) (He.fAd K ("Hand", some "take")) d_take := toFun (st := (inClass (top 26) 6)) D_take
  have b_take : L2.Binds K d_take ["self", "lock"] [] := F_take.binds fun _ _ _ _ _ _ us hl => match us, hl with | [_, _], _ => rfl
  obtain ⟨d_give, D_give⟩ := cd.def_ 26 rfl
  have F_give : Fun K "give" "Hand.give" (inClass (top 26) 7) (He.fAd K ("Hand", some "give")) d_give := toFun (st := (inClass (top 26) 7)) D_give
  have b_give : L2.Binds K d_give ["self", "lock"] [] := F_give.binds fun _ _ _ _ _ _ us hl => match us, hl with | [_, _], _ => rfl
  obtain ⟨d_reach, D_reach⟩ := cd.def_ 27 rfl
  have F_reach : Fun K "reach" "Hand.reach" (inClass (top 26) 8) (He.fAd K ("Hand", some "reach")) d_reach := toFun (st := (inClass (top 26) 8)) D_reach
  have b_reach : L2.Binds K d_reach ["self", "lock"] [] := F_reach.binds fun _ _ _ _ _ _ us hl => match us, hl with | [_, _], _ => rfl
  obtain ⟨d_lay, D_lay⟩ := cd.def_ 28 rfl
  have F_lay : Fun K "lay" "Hand.lay" (inClass (top 26) 9) (He.fAd K ("Hand", some "lay")) d_lay := toFun (st := (inClass (top 26) 9)) D_lay
  have b_lay : L2.Binds K d_lay ["self", "belt", "value"] [] := F_lay.binds fun _ _ _ _ _ _ us hl => match us, hl with | [_, _, _], _ => rfl
  obtain ⟨d_fetch, D_fetch⟩ := cd.def_ 29 rfl
  have F_fetch : Fun K "fetch" "Hand.fetch" (inClass (top 26) 10) (He.fAd K ("Hand", some "fetch")) d_fetch := toFun (st := (inClass (top 26) 10)) D_fetch
  have b_fetch : L2.Binds K d_fetch ["self", "belt"] [] := F_fetch.binds fun _ _ _ _ _ _ us hl => match us, hl with | [_, _], _ => rfl
  obtain ⟨d_rest, D_rest⟩ := cd.def_ 30 rfl
  have F_rest : Fun K "rest" "Hand.rest" (inClass (top 26) 11) (He.fAd K ("Hand", some "rest")) d_rest := toFun (st := (inClass (top 26) 11)) D_rest
  have b_rest : L2.Binds K d_rest ["self"] [] := F_rest.binds fun _ _ _ _ _ _ us hl => match us, hl with | [_], _ => rfl
  obtain ⟨d_say, D_say⟩ := cd.def_ 31 rfl
  have F_say : Fun K "say" "Hand.say" (inClass (top 26) 12) (He.fAd K ("Hand", some "say")) d_say := toFun (st := (inClass (top 26) 12)) D_say
  have b_say : L2.Binds K d_say ["self", "value"] [] := F_say.binds fun _ _ _ _ _ _ us hl => match us, hl with | [_, _], _ => rfl
  obtain ⟨d_PI, D_PI⟩ := cd.def_ 32 rfl
  have F_PI : Fun K "__init__" "Place.__init__" (inClass (top 28) 0) (He.fAd K ("Place", some "__init__")) d_PI := toFun (st := (inClass (top 28) 0)) D_PI
  have b_PI : L2.Binds K d_PI ["self", "answers", "pending", "end", "words"] [] := F_PI.binds fun _ _ _ _ _ _ us hl => match us, hl with | [_, _, _, _, _], _ => rfl
  obtain ⟨d_ret, D_ret⟩ := cd.def_ 33 rfl
  have F_ret : Fun K "returned" "returned" (top 29) (He.fAd K ("returned", none)) d_ret := toFun (st := (top 29)) D_ret
  have b_ret : L2.Binds K d_ret ["work", "hand"] [] := F_ret.binds fun _ _ _ _ _ _ us hl => match us, hl with | [_, _], _ => rfl
  obtain ⟨d_come, D_come⟩ := cd.def_ 34 rfl
  have F_come : Fun K "come" "come" (top 30) (He.fAd K ("come", none)) d_come := toFun (st := (top 30)) D_come
  have b_come : L2.Binds K d_come ["shop", "k", "answers"] [] := F_come.binds fun _ _ _ _ _ _ us hl => match us, hl with | [_, _, _], _ => rfl
  obtain ⟨d_TI, D_TI⟩ := cd.def_ 35 rfl
  have F_TI : Fun K "__init__" "Things.__init__" (inClass (top 32) 0) (He.fAd K ("Things", some "__init__")) d_TI := toFun (st := (inClass (top 32) 0)) D_TI
  have b_TI : L2.Binds K d_TI ["self", "cells", "holders", "rows", "sizes"] [] := F_TI.binds fun _ _ _ _ _ _ us hl => match us, hl with | [_, _, _, _, _], _ => rfl
  obtain ⟨d_first, D_first⟩ := cd.def_ 36 rfl
  have F_first : Fun K "first_things" "first_things" (top 33) (He.fAd K ("first_things", none)) d_first := toFun (st := (top 33)) D_first
  have b_first : L2.Binds K d_first ["shop"] [] := F_first.binds fun _ _ _ _ _ _ us hl => match us, hl with | [_], _ => rfl
  obtain ⟨d_again, D_again⟩ := cd.def_ 37 rfl
  have F_again : Fun K "things_again" "things_again" (top 34) (He.fAd K ("things_again", none)) d_again := toFun (st := (top 34)) D_again
  have b_again : L2.Binds K d_again ["things"] [] := F_again.binds fun _ _ _ _ _ _ us hl => match us, hl with | [_], _ => rfl
  obtain ⟨d_room, D_room⟩ := cd.def_ 38 rfl
  have F_room : Fun K "has_room" "has_room" (top 35) (He.fAd K ("has_room", none)) d_room := toFun (st := (top 35)) D_room
  have b_room : L2.Binds K d_room ["things", "belt"] [] := F_room.binds fun _ _ _ _ _ _ us hl => match us, hl with | [_, _], _ => rfl
  obtain ⟨d_need, D_need⟩ := cd.def_ 39 rfl
  have F_need : Fun K "need_not_wait" "need_not_wait" (top 36) (He.fAd K ("need_not_wait", none)) d_need := toFun (st := (top 36)) D_need
  have b_need : L2.Binds K d_need ["things", "wish"] [] := F_need.binds fun _ _ _ _ _ _ us hl => match us, hl with | [_, _], _ => rfl
  obtain ⟨d_dnothing, D_dnothing⟩ := cd.def_ 40 rfl
  have F_dnothing : Fun K "do_nothing" "do_nothing" (top 37) (He.fAd K ("do_nothing", none)) d_dnothing := toFun (st := (top 37)) D_dnothing
  have b_dnothing : L2.Binds K d_dnothing ["things", "k", "wish"] [] := F_dnothing.binds fun _ _ _ _ _ _ us hl => match us, hl with | [_, _, _], _ => rfl
  obtain ⟨d_dlook, D_dlook⟩ := cd.def_ 41 rfl
  have F_dlook : Fun K "do_look" "do_look" (top 38) (He.fAd K ("do_look", none)) d_dlook := toFun (st := (top 38)) D_dlook
  have b_dlook : L2.Binds K d_dlook ["things", "k", "wish"] [] := F_dlook.binds fun _ _ _ _ _ _ us hl => match us, hl with | [_, _, _], _ => rfl
  obtain ⟨d_dput, D_dput⟩ := cd.def_ 42 rfl
  have F_dput : Fun K "do_put" "do_put" (top 39) (He.fAd K ("do_put", none)) d_dput := toFun (st := (top 39)) D_dput
  have b_dput : L2.Binds K d_dput ["things", "k", "wish"] [] := F_dput.binds fun _ _ _ _ _ _ us hl => match us, hl with | [_, _, _], _ => rfl
  obtain ⟨d_dswap, D_dswap⟩ := cd.def_ 43 rfl
  have F_dswap : Fun K "do_swap" "do_swap" (top 40) (He.fAd K ("do_swap", none)) d_dswap := toFun (st := (top 40)) D_dswap
  have b_dswap : L2.Binds K d_dswap ["things", "k", "wish"] [] := F_dswap.binds fun _ _ _ _ _ _ us hl => match us, hl with | [_, _, _], _ => rfl
  obtain ⟨d_dtrade, D_dtrade⟩ := cd.def_ 44 rfl
  have F_dtrade : Fun K "do_trade" "do_trade" (top 41) (He.fAd K ("do_trade", none)) d_dtrade := toFun (st := (top 41)) D_dtrade
  have b_dtrade : L2.Binds K d_dtrade ["things", "k", "wish"] [] := F_dtrade.binds fun _ _ _ _ _ _ us hl => match us, hl with | [_, _, _], _ => rfl
  obtain ⟨d_dtake, D_dtake⟩ := cd.def_ 45 rfl
  have F_dtake : Fun K "do_take" "do_take" (top 42) (He.fAd K ("do_take", none)) d_dtake := toFun (st := (top 42)) D_dtake
  have b_dtake : L2.Binds K d_dtake ["things", "k", "wish"] [] := F_dtake.binds fun _ _ _ _ _ _ us hl => match us, hl with | [_, _, _], _ => rfl
  obtain ⟨d_dgive, D_dgive⟩ := cd.def_ 46 rfl
  have F_dgive : Fun K "do_give" "do_give" (top 43) (He.fAd K ("do_give", none)) d_dgive := toFun (st := (top 43)) D_dgive
  have b_dgive : L2.Binds K d_dgive ["things", "k", "wish"] [] := F_dgive.binds fun _ _ _ _ _ _ us hl => match us, hl with | [_, _, _], _ => rfl
  obtain ⟨d_dreach, D_dreach⟩ := cd.def_ 47 rfl
  have F_dreach : Fun K "do_reach" "do_reach" (top 44) (He.fAd K ("do_reach", none)) d_dreach := toFun (st := (top 44)) D_dreach
  have b_dreach : L2.Binds K d_dreach ["things", "k", "wish"] [] := F_dreach.binds fun _ _ _ _ _ _ us hl => match us, hl with | [_, _, _], _ => rfl
  obtain ⟨d_dlay, D_dlay⟩ := cd.def_ 48 rfl
  have F_dlay : Fun K "do_lay" "do_lay" (top 45) (He.fAd K ("do_lay", none)) d_dlay := toFun (st := (top 45)) D_dlay
  have b_dlay : L2.Binds K d_dlay ["things", "k", "wish"] [] := F_dlay.binds fun _ _ _ _ _ _ us hl => match us, hl with | [_, _, _], _ => rfl
  obtain ⟨d_dfetch, D_dfetch⟩ := cd.def_ 49 rfl
  have F_dfetch : Fun K "do_fetch" "do_fetch" (top 46) (He.fAd K ("do_fetch", none)) d_dfetch := toFun (st := (top 46)) D_dfetch
  have b_dfetch : L2.Binds K d_dfetch ["things", "k", "wish"] [] := F_dfetch.binds fun _ _ _ _ _ _ us hl => match us, hl with | [_, _, _], _ => rfl
  obtain ⟨d_dstep, D_dstep⟩ := cd.def_ 50 rfl
  have F_dstep : Fun K "do_step" "do_step" (top 48) (He.fAd K ("do_step", none)) d_dstep := toFun (st := (top 48)) D_dstep
  have b_dstep : L2.Binds K d_dstep ["things", "k", "wish"] [] := F_dstep.binds fun _ _ _ _ _ _ us hl => match us, hl with | [_, _, _], _ => rfl
  obtain ⟨d_place, D_place⟩ := cd.def_ 51 rfl
  have F_place : Fun K "place_of" "place_of" (top 50) (He.fAd K ("place_of", none)) d_place := toFun (st := (top 50)) D_place
  have b_place : L2.Binds K d_place ["run", "k"] [] := F_place.binds fun _ _ _ _ _ _ us hl => match us, hl with | [_, _], _ => rfl
  obtain ⟨d_cango, D_cango⟩ := cd.def_ 52 rfl
  have F_cango : Fun K "can_go" "can_go" (top 51) (He.fAd K ("can_go", none)) d_cango := toFun (st := (top 51)) D_cango
  have b_cango : L2.Binds K d_cango ["run", "place"] [] := F_cango.binds fun _ _ _ _ _ _ us hl => match us, hl with | [_, _], _ => rfl
  obtain ⟨d_RI, D_RI⟩ := cd.def_ 53 rfl
  have F_RI : Fun K "__init__" "Run.__init__" (inClass (top 52) 0) (He.fAd K ("Run", some "__init__")) d_RI := toFun (st := (inClass (top 52) 0)) D_RI
  have b_RI : L2.Binds K d_RI ["self", "shop"] [] := F_RI.binds fun _ _ _ _ _ _ us hl => match us, hl with | [_, _], _ => rfl
  obtain ⟨d_wish, D_wish⟩ := cd.def_ 54 rfl
  have F_wish : Fun K "wish" "Run.wish" (inClass (top 52) 1) (He.fAd K ("Run", some "wish")) d_wish := toFun (st := (inClass (top 52) 1)) D_wish
  have b_wish : L2.Binds K d_wish ["self", "k"] [] := F_wish.binds fun _ _ _ _ _ _ us hl => match us, hl with | [_, _], _ => rfl
  obtain ⟨d_can, D_can⟩ := cd.def_ 55 rfl
  have F_can : Fun K "can" "Run.can" (inClass (top 52) 2) (He.fAd K ("Run", some "can")) d_can := toFun (st := (inClass (top 52) 2)) D_can
  have b_can : L2.Binds K d_can ["self"] [] := F_can.binds fun _ _ _ _ _ _ us hl => match us, hl with | [_], _ => rfl
  obtain ⟨d_go, D_go⟩ := cd.def_ 56 rfl
  have F_go : Fun K "go" "Run.go" (inClass (top 52) 3) (He.fAd K ("Run", some "go")) d_go := toFun (st := (inClass (top 52) 3)) D_go
  have b_go : L2.Binds K d_go ["self", "k"] [] := F_go.binds fun _ _ _ _ _ _ us hl => match us, hl with | [_, _], _ => rfl
  obtain ⟨d_turns, D_turns⟩ := cd.def_ 57 rfl
  have F_turns : Fun K "turns" "Run.turns" (inClass (top 52) 4) (He.fAd K ("Run", some "turns")) d_turns := toFun (st := (inClass (top 52) 4)) D_turns
  have b_turns : L2.Binds K d_turns ["self"] [] := F_turns.binds fun _ _ _ _ _ _ us hl => match us, hl with | [_], _ => rfl
  obtain ⟨d_steps, D_steps⟩ := cd.def_ 58 rfl
  have F_steps : Fun K "steps" "Run.steps" (inClass (top 52) 5) (He.fAd K ("Run", some "steps")) d_steps := toFun (st := (inClass (top 52) 5)) D_steps
  have b_steps : L2.Binds K d_steps ["self"] [] := F_steps.binds fun _ _ _ _ _ _ us hl => match us, hl with | [_], _ => rfl
  obtain ⟨d_ends, D_ends⟩ := cd.def_ 59 rfl
  have F_ends : Fun K "ends" "Run.ends" (inClass (top 52) 6) (He.fAd K ("Run", some "ends")) d_ends := toFun (st := (inClass (top 52) 6)) D_ends
  have b_ends : L2.Binds K d_ends ["self"] [] := F_ends.binds fun _ _ _ _ _ _ us hl => match us, hl with | [_], _ => rfl
  obtain ⟨d_cell, D_cell⟩ := cd.def_ 60 rfl
  have F_cell : Fun K "cell" "Run.cell" (inClass (top 52) 7) (He.fAd K ("Run", some "cell")) d_cell := toFun (st := (inClass (top 52) 7)) D_cell
  have b_cell : L2.Binds K d_cell ["self", "name"] [] := F_cell.binds fun _ _ _ _ _ _ us hl => match us, hl with | [_, _], _ => rfl
  obtain ⟨d_holder, D_holder⟩ := cd.def_ 61 rfl
  have F_holder : Fun K "holder" "Run.holder" (inClass (top 52) 8) (He.fAd K ("Run", some "holder")) d_holder := toFun (st := (inClass (top 52) 8)) D_holder
  have b_holder : L2.Binds K d_holder ["self", "name"] [] := F_holder.binds fun _ _ _ _ _ _ us hl => match us, hl with | [_, _], _ => rfl
  obtain ⟨d_belt, D_belt⟩ := cd.def_ 62 rfl
  have F_belt : Fun K "belt" "Run.belt" (inClass (top 52) 9) (He.fAd K ("Run", some "belt")) d_belt := toFun (st := (inClass (top 52) 9)) D_belt
  have b_belt : L2.Binds K d_belt ["self", "name"] [] := F_belt.binds fun _ _ _ _ _ _ us hl => match us, hl with | [_, _], _ => rfl
  obtain ⟨d_said, D_said⟩ := cd.def_ 63 rfl
  have F_said : Fun K "said" "Run.said" (inClass (top 52) 10) (He.fAd K ("Run", some "said")) d_said := toFun (st := (inClass (top 52) 10)) D_said
  have b_said : L2.Binds K d_said ["self", "k"] [] := F_said.binds fun _ _ _ _ _ _ us hl => match us, hl with | [_, _], _ => rfl
  obtain ⟨d_over, D_over⟩ := cd.def_ 64 rfl
  have F_over : Fun K "is_over" "Run.is_over" (inClass (top 52) 12) (He.fAd K ("Run", some "is_over")) d_over := toFun (st := (inClass (top 52) 12)) D_over
  have b_over : L2.Binds K d_over ["self"] [] := F_over.binds fun _ _ _ _ _ _ us hl => match us, hl with | [_], _ => rfl
  obtain ⟨d_stands, D_stands⟩ := cd.def_ 65 rfl
  have F_stands : Fun K "stands" "Run.stands" (inClass (top 52) 13) (He.fAd K ("Run", some "stands")) d_stands := toFun (st := (inClass (top 52) 13)) D_stands
  have b_stands : L2.Binds K d_stands ["self"] [] := F_stands.binds fun _ _ _ _ _ _ us hl => match us, hl with | [_], _ => rfl
  obtain ⟨d_ckw, D_ckw⟩ := cd.def_ 66 rfl
  have F_ckw : Fun K "check_works" "check_works" (top 57) (He.fAd K ("check_works", none)) d_ckw := toFun (st := (top 57)) D_ckw
  have b_ckw : L2.Binds K d_ckw ["works"] [] := F_ckw.binds fun _ _ _ _ _ _ us hl => match us, hl with | [_], _ => rfl
  obtain ⟨d_ckn, D_ckn⟩ := cd.def_ 67 rfl
  have F_ckn : Fun K "check_names" "check_names" (top 58) (He.fAd K ("check_names", none)) d_ckn := toFun (st := (top 58)) D_ckn
  have b_ckn : L2.Binds K d_ckn ["names"] [] := F_ckn.binds fun _ _ _ _ _ _ us hl => match us, hl with | [_], _ => rfl
  obtain ⟨d_cks, D_cks⟩ := cd.def_ 68 rfl
  have F_cks : Fun K "check_size" "check_size" (top 59) (He.fAd K ("check_size", none)) d_cks := toFun (st := (top 59)) D_cks
  have b_cks : L2.Binds K d_cks ["size"] [] := F_cks.binds fun _ _ _ _ _ _ us hl => match us, hl with | [_], _ => rfl
  obtain ⟨d_ckl, D_ckl⟩ := cd.def_ 69 rfl
  have F_ckl : Fun K "check_limit" "check_limit" (top 60) (He.fAd K ("check_limit", none)) d_ckl := toFun (st := (top 60)) D_ckl
  have b_ckl : L2.Binds K d_ckl ["limit", "top"] [] := F_ckl.binds fun _ _ _ _ _ _ us hl => match us, hl with | [_, _], _ => rfl
  obtain ⟨d_cop, D_cop⟩ := cd.def_ 70 rfl
  have F_cop : Fun K "copied" "copied" (top 61) (He.fAd K ("copied", none)) d_cop := toFun (st := (top 61)) D_cop
  have b_cop : L2.Binds K d_cop ["table"] [] := F_cop.binds fun _ _ _ _ _ _ us hl => match us, hl with | [_], _ => rfl
  obtain ⟨d_SI, D_SI⟩ := cd.def_ 71 rfl
  have F_SI : Fun K "__init__" "Shop.__init__" (inClass (top 62) 0) (He.fAd K ("Shop", some "__init__")) d_SI := toFun (st := (inClass (top 62) 0)) D_SI
  obtain ⟨d_snames, D_snames⟩ := cd.def_ 72 rfl
  have F_snames : Fun K "names" "Shop.names" (inClass (top 62) 1) (He.fAd K ("Shop", some "names")) d_snames := toFun (st := (inClass (top 62) 1)) D_snames
  have b_snames : L2.Binds K d_snames ["self"] [] := F_snames.binds fun _ _ _ _ _ _ us hl => match us, hl with | [_], _ => rfl
  obtain ⟨d_lsource, D_lsource⟩ := cd.def_ 73 rfl
  have F_lsource : Fun K "_law_source" "_law_source" (top 64) (He.fAd K ("_law_source", none)) d_lsource := toFun (st := (top 64)) D_lsource
  have b_lsource : L2.Binds K d_lsource ["_law_script", "_law_at"] [] := F_lsource.binds fun _ _ _ _ _ _ us hl => match us, hl with | [_, _], _ => rfl
  obtain ⟨d_ldraw, D_ldraw⟩ := cd.def_ 74 rfl
  have F_ldraw : Fun K "_law_draw" "_law_draw" (top 65) (He.fAd K ("_law_draw", none)) d_ldraw := toFun (st := (top 65)) D_ldraw
  have b_ldraw : L2.Binds K d_ldraw ["_law_draws", "_law_many"] [] := F_ldraw.binds fun _ _ _ _ _ _ us hl => match us, hl with | [_, _], _ => rfl
  obtain ⟨d_lpick, D_lpick⟩ := cd.def_ 75 rfl
  have F_lpick : Fun K "_law_pick" "_law_pick" (top 66) (He.fAd K ("_law_pick", none)) d_lpick := toFun (st := (top 66)) D_lpick
  have b_lpick : L2.Binds K d_lpick ["_law_draws", "_law_xs"] [] := F_lpick.binds fun _ _ _ _ _ _ us hl => match us, hl with | [_, _], _ => rfl
  obtain ⟨d_lsame, D_lsame⟩ := cd.def_ 76 rfl
  have F_lsame : Fun K "_law_same" "_law_same" (top 67) (He.fAd K ("_law_same", none)) d_lsame := toFun (st := (top 67)) D_lsame
  have b_lsame : L2.Binds K d_lsame ["_law_found", "_law_due"] [] := F_lsame.binds fun _ _ _ _ _ _ us hl => match us, hl with | [_, _], _ => rfl
  obtain ⟨d_lcounting, D_lcounting⟩ := cd.def_ 77 rfl
  have F_lcounting : Fun K "_law_counting" "_law_counting" (top 68) (He.fAd K ("_law_counting", none)) d_lcounting := toFun (st := (top 68)) D_lcounting
  have b_lcounting : L2.Binds K d_lcounting ["_law_times", "_law_hand"] [] := F_lcounting.binds fun _ _ _ _ _ _ us hl => match us, hl with | [_, _], _ => rfl
  obtain ⟨d_lhanding, D_lhanding⟩ := cd.def_ 78 rfl
  have F_lhanding : Fun K "_law_handing" "_law_handing" (top 69) (He.fAd K ("_law_handing", none)) d_lhanding := toFun (st := (top 69)) D_lhanding
  have b_lhanding : L2.Binds K d_lhanding ["_law_values", "_law_hand"] [] := F_lhanding.binds fun _ _ _ _ _ _ us hl => match us, hl with | [_, _], _ => rfl
  obtain ⟨d_lgetting, D_lgetting⟩ := cd.def_ 79 rfl
  have F_lgetting : Fun K "_law_getting" "_law_getting" (top 70) (He.fAd K ("_law_getting", none)) d_lgetting := toFun (st := (top 70)) D_lgetting
  have b_lgetting : L2.Binds K d_lgetting ["_law_hand"] [] := F_lgetting.binds fun _ _ _ _ _ _ us hl => match us, hl with | [_], _ => rfl
  obtain ⟨d_lled, D_lled⟩ := cd.def_ 80 rfl
  have F_lled : Fun K "_law_led" "_law_led" (top 71) (He.fAd K ("_law_led", none)) d_lled := toFun (st := (top 71)) D_lled
  have b_lled : L2.Binds K d_lled ["_law_run", "_law_draws", "_law_far"] [] := F_lled.binds fun _ _ _ _ _ _ us hl => match us, hl with | [_, _, _], _ => rfl
  obtain ⟨d_law, D_law⟩ := cd.def_ 81 rfl
  have F_law : Fun K "law" "law" (top 72) (He.fAd K ("law", none)) d_law := toFun (st := (top 72)) D_law
  have b_law : L2.Binds K d_law ["_law_script"] [] := F_law.binds fun _ _ _ _ _ _ us hl => match us, hl with | [_], _ => rfl
  have T_Hand : HTxt K (He.ga K "Hand") := ⟨He.cls_ok (cd.fact 78 rfl), He.noat_ok (cd.fact 80 rfl), He.noat_ok (cd.fact 81 rfl), He.noat_ok (cd.fact 82 rfl), He.noat_ok (cd.fact 83 rfl), He.noat_ok (cd.fact 84 rfl), He.noat_ok (cd.fact 85 rfl), He.noat_ok (cd.fact 86 rfl), He.noat_ok (cd.fact 87 rfl), He.noat_ok (cd.fact 88 rfl)⟩
  have M_Hand : Mk K (He.ga K "Hand") (He.fAd K ("Hand", some "__init__")) := He.mkr_ok (cd.fact 79 rfl)
  have T_Place : PTxt K (He.ga K "Place") := ⟨He.cls_ok (cd.fact 89 rfl), He.noat_ok (cd.fact 91 rfl), He.noat_ok (cd.fact 92 rfl), He.noat_ok (cd.fact 93 rfl), He.noat_ok (cd.fact 94 rfl)⟩
  have M_Place : Mk K (He.ga K "Place") (He.fAd K ("Place", some "__init__")) := He.mkr_ok (cd.fact 90 rfl)
  have T_Things : TTxt K (He.ga K "Things") := ⟨He.cls_ok (cd.fact 95 rfl), He.noat_ok (cd.fact 97 rfl), He.noat_ok (cd.fact 98 rfl), He.noat_ok (cd.fact 99 rfl), He.noat_ok (cd.fact 100 rfl)⟩
  have M_Things : Mk K (He.ga K "Things") (He.fAd K ("Things", some "__init__")) := He.mkr_ok (cd.fact 96 rfl)
  have T_Run : RTxt K (He.ga K "Run") := ⟨He.cls_ok (cd.fact 101 rfl), He.noat_ok (cd.fact 103 rfl), He.noat_ok (cd.fact 104 rfl), He.noat_ok (cd.fact 105 rfl), He.noat_ok (cd.fact 106 rfl)⟩
  have M_Run : Mk K (He.ga K "Run") (He.fAd K ("Run", some "__init__")) := He.mkr_ok (cd.fact 102 rfl)
  have T_Shop : STxt K (He.ga K "Shop") := ⟨He.cls_ok (cd.fact 107 rfl), He.noat_ok (cd.fact 109 rfl), He.noat_ok (cd.fact 110 rfl), He.noat_ok (cd.fact 111 rfl), He.noat_ok (cd.fact 112 rfl), He.noat_ok (cd.fact 113 rfl), He.noat_ok (cd.fact 114 rfl), He.noat_ok (cd.fact 115 rfl)⟩
  have M_Shop : Mk K (He.ga K "Shop") (He.fAd K ("Shop", some "__init__")) := He.mkr_ok (cd.fact 108 rfl)
  have h_Hand_look : Meth K (He.ga K "Hand") "look" (He.fAd K ("Hand", some "look")) := He.meth_ok (cd.fact 116 rfl)
  have h_Hand_put : Meth K (He.ga K "Hand") "put" (He.fAd K ("Hand", some "put")) := He.meth_ok (cd.fact 117 rfl)
  have h_Hand_swap : Meth K (He.ga K "Hand") "swap" (He.fAd K ("Hand", some "swap")) := He.meth_ok (cd.fact 118 rfl)
  have h_Hand_trade : Meth K (He.ga K "Hand") "trade" (He.fAd K ("Hand", some "trade")) := He.meth_ok (cd.fact 119 rfl)
  have h_Hand_until : Meth K (He.ga K "Hand") "until" (He.fAd K ("Hand", some "until")) := He.meth_ok (cd.fact 120 rfl)
  have h_Hand_take : Meth K (He.ga K "Hand") "take" (He.fAd K ("Hand", some "take")) := He.meth_ok (cd.fact 121 rfl)
  have h_Hand_give : Meth K (He.ga K "Hand") "give" (He.fAd K ("Hand", some "give")) := He.meth_ok (cd.fact 122 rfl)
  have h_Hand_reach : Meth K (He.ga K "Hand") "reach" (He.fAd K ("Hand", some "reach")) := He.meth_ok (cd.fact 123 rfl)
  have h_Hand_lay : Meth K (He.ga K "Hand") "lay" (He.fAd K ("Hand", some "lay")) := He.meth_ok (cd.fact 124 rfl)
  have h_Hand_fetch : Meth K (He.ga K "Hand") "fetch" (He.fAd K ("Hand", some "fetch")) := He.meth_ok (cd.fact 125 rfl)
  have h_Hand_rest : Meth K (He.ga K "Hand") "rest" (He.fAd K ("Hand", some "rest")) := He.meth_ok (cd.fact 126 rfl)
  have h_Hand_say : Meth K (He.ga K "Hand") "say" (He.fAd K ("Hand", some "say")) := He.meth_ok (cd.fact 127 rfl)
  have h_Run_wish : Meth K (He.ga K "Run") "wish" (He.fAd K ("Run", some "wish")) := He.meth_ok (cd.fact 128 rfl)
  have h_Run_can : Meth K (He.ga K "Run") "can" (He.fAd K ("Run", some "can")) := He.meth_ok (cd.fact 129 rfl)
  have h_Run_go : Meth K (He.ga K "Run") "go" (He.fAd K ("Run", some "go")) := He.meth_ok (cd.fact 130 rfl)
  have h_Run_turns : Meth K (He.ga K "Run") "turns" (He.fAd K ("Run", some "turns")) := He.meth_ok (cd.fact 131 rfl)
  have h_Run_steps : Meth K (He.ga K "Run") "steps" (He.fAd K ("Run", some "steps")) := He.meth_ok (cd.fact 132 rfl)
  have h_Run_ends : Meth K (He.ga K "Run") "ends" (He.fAd K ("Run", some "ends")) := He.meth_ok (cd.fact 133 rfl)
  have h_Run_cell : Meth K (He.ga K "Run") "cell" (He.fAd K ("Run", some "cell")) := He.meth_ok (cd.fact 134 rfl)
  have h_Run_holder : Meth K (He.ga K "Run") "holder" (He.fAd K ("Run", some "holder")) := He.meth_ok (cd.fact 135 rfl)
  have h_Run_belt : Meth K (He.ga K "Run") "belt" (He.fAd K ("Run", some "belt")) := He.meth_ok (cd.fact 136 rfl)
  have h_Run_said : Meth K (He.ga K "Run") "said" (He.fAd K ("Run", some "said")) := He.meth_ok (cd.fact 137 rfl)
  have h_Run_is_over : Meth K (He.ga K "Run") "is_over" (He.fAd K ("Run", some "is_over")) := He.meth_ok (cd.fact 138 rfl)
  have h_Run_stands : Meth K (He.ga K "Run") "stands" (He.fAd K ("Run", some "stands")) := He.meth_ok (cd.fact 139 rfl)
  have h_Shop_names : Meth K (He.ga K "Shop") "names" (He.fAd K ("Shop", some "names")) := He.meth_ok (cd.fact 140 rfl)
  have xHH : exmOne K (.ref (He.ga K "Held")) (.ref (He.ga K "Held")) = some true := He.exm_ok (cd.fact 141 rfl)
  have xNN : exmOne K (.ref (He.ga K "NoThing")) (.ref (He.ga K "NoThing")) = some true := He.exm_ok (cd.fact 142 rfl)
  have xHN : exmOne K (.ref (He.ga K "Held")) (.ref (He.ga K "NoThing")) = some false := He.exm_ok (cd.fact 143 rfl)
  have mo := c.more
  unfold ex at mo
  obtain ⟨x_BadWorks, mo⟩ := He.ba mo
  obtain ⟨x_BadName, mo⟩ := He.ba mo
  obtain ⟨x_BadValue, mo⟩ := He.ba mo
  obtain ⟨x_BadSize, mo⟩ := He.ba mo
  obtain ⟨x_BadLimit, mo⟩ := He.ba mo
  obtain ⟨x_NoThing, mo⟩ := He.ba mo
  obtain ⟨x_NotHeld, mo⟩ := He.ba mo
  obtain ⟨x_NoWork, mo⟩ := He.ba mo
  obtain ⟨x_CanNot, mo⟩ := He.ba mo
  obtain ⟨x_held, mo⟩ := He.ba mo
  obtain ⟨x_t0, mo⟩ := He.ba mo
  obtain ⟨x_steps, x_ne⟩ := He.ba mo
  have neS : List.Nodup [He.ga K "do_look", He.ga K "do_put", He.ga K "do_swap", He.ga K "do_trade", He.ga K "do_nothing", He.ga K "do_take", He.ga K "do_give", He.ga K "do_reach", He.ga K "do_lay", He.ga K "do_fetch"] := of_decide_eq_true x_ne
  have ht0 : ∀ H, SqT K H (kwAt ("Shop", some "__init__") "locks" K) [] := fun H => noneB_ok x_t0 H
  obtain ⟨hh1, hh2⟩ := He.ba x_held
  obtain ⟨hh2, hh3⟩ := He.ba hh2
  obtain ⟨hh3, hh4⟩ := He.ba hh3
  have Z_Held : Err0 K mg "Held" (He.ga K "Held") := ⟨hh1, g_Held, hh2, of_decide_eq_true hh3, of_decide_eq_true hh4⟩
  obtain ⟨es, en, KD⟩ := c.t.tab 0 rfl
  have kd : ∀ (x f : PySem.Str), (x, He.Dv.glo f) ∈ ([("look", .glo "do_look"), ("put", .glo "do_put"), ("swap", .glo "do_swap"), ("trade", .glo "do_trade"), ("until", .glo "do_nothing"), ("take", .glo "do_take"), ("give", .glo "do_give"), ("reach", .glo "do_reach"), ("lay", .glo "do_lay"), ("fetch", .glo "do_fetch"), ("rest", .glo "do_nothing")] : List (PySem.Str × He.Dv)) → KDct K w (He.ga K "STEPS") x (.ref (He.ga K f)) := fun x f m => by
    obtain ⟨u, e1, e2⟩ := He.valsB_ok x_steps m
    exact ⟨es, en, u, KD.at_, KD.lit, e1, e2⟩
  have k_look := kd "look" "do_look" (List.mem_cons_self ..)
  have k_put := kd "put" "do_put" (List.mem_cons_of_mem _ (List.mem_cons_self ..))
  have k_swap := kd "swap" "do_swap" (List.mem_cons_of_mem _ (List.mem_cons_of_mem _ (List.mem_cons_self ..)))
  have k_trade := kd "trade" "do_trade" (List.mem_cons_of_mem _ (List.mem_cons_of_mem _ (List.mem_cons_of_mem _ (List.mem_cons_self ..))))
  have k_until := kd "until" "do_nothing" (List.mem_cons_of_mem _ (List.mem_cons_of_mem _ (List.mem_cons_of_mem _ (List.mem_cons_of_mem _ (List.mem_cons_self ..)))))
  have k_take := kd "take" "do_take" (List.mem_cons_of_mem _ (List.mem_cons_of_mem _ (List.mem_cons_of_mem _ (List.mem_cons_of_mem _ (List.mem_cons_of_mem _ (List.mem_cons_self ..))))))
  have k_give := kd "give" "do_give" (List.mem_cons_of_mem _ (List.mem_cons_of_mem _ (List.mem_cons_of_mem _ (List.mem_cons_of_mem _ (List.mem_cons_of_mem _ (List.mem_cons_of_mem _ (List.mem_cons_self ..)))))))
  have k_reach := kd "reach" "do_reach" (List.mem_cons_of_mem _ (List.mem_cons_of_mem _ (List.mem_cons_of_mem _ (List.mem_cons_of_mem _ (List.mem_cons_of_mem _ (List.mem_cons_of_mem _ (List.mem_cons_of_mem _ (List.mem_cons_self ..))))))))
  have k_lay := kd "lay" "do_lay" (List.mem_cons_of_mem _ (List.mem_cons_of_mem _ (List.mem_cons_of_mem _ (List.mem_cons_of_mem _ (List.mem_cons_of_mem _ (List.mem_cons_of_mem _ (List.mem_cons_of_mem _ (List.mem_cons_of_mem _ (List.mem_cons_self ..)))))))))
  have k_fetch := kd "fetch" "do_fetch" (List.mem_cons_of_mem _ (List.mem_cons_of_mem _ (List.mem_cons_of_mem _ (List.mem_cons_of_mem _ (List.mem_cons_of_mem _ (List.mem_cons_of_mem _ (List.mem_cons_of_mem _ (List.mem_cons_of_mem _ (List.mem_cons_of_mem _ (List.mem_cons_self ..))))))))))
  have k_rest := kd "rest" "do_nothing" (List.mem_cons_of_mem _ (List.mem_cons_of_mem _ (List.mem_cons_of_mem _ (List.mem_cons_of_mem _ (List.mem_cons_of_mem _ (List.mem_cons_of_mem _ (List.mem_cons_of_mem _ (List.mem_cons_of_mem _ (List.mem_cons_of_mem _ (List.mem_cons_of_mem _ (List.mem_cons_self ..)))))))))))

  have q_BadWorks := fun_two (f := "count") F_eBadWorks (fun _ _ _ _ _ _ _ _ => rfl) (fun _ _ _ _ _ _ _ _ => rfl)
  have Z_BadWorks : ∀ base, Err1 PySem.Challenge.rw_turnways_k19_long_runs.prog w K mg base "BadWorks" "count" (He.ga K "BadWorks") := fun base => ⟨⟨_, _, errB_ok x_BadWorks q_BadWorks.1 q_BadWorks.2, ok_errI F_eBadWorks (errB_ok x_BadWorks q_BadWorks.1 q_BadWorks.2) ⟨rfl, rfl, rfl, by decide +kernel, rfl, by decide +kernel, by decide +kernel⟩ rfl (by decide) (by decide)⟩, g_BadWorks⟩
  have q_BadName := fun_two (f := "name") F_eBadName (fun _ _ _ _ _ _ _ _ => rfl) (fun _ _ _ _ _ _ _ _ => rfl)
  have Z_BadName : ∀ base, Err1 PySem.Challenge.rw_turnways_k19_long_runs.prog w K mg base "BadName" "name" (He.ga K "BadName") := fun base => ⟨⟨_, _, errB_ok x_BadName q_BadName.1 q_BadName.2, ok_errI F_eBadName (errB_ok x_BadName q_BadName.1 q_BadName.2) ⟨rfl, rfl, rfl, by decide +kernel, rfl, by decide +kernel, by decide +kernel⟩ rfl (by decide) (by decide)⟩, g_BadName⟩
  have q_BadValue := fun_two (f := "value") F_eBadValue (fun _ _ _ _ _ _ _ _ => rfl) (fun _ _ _ _ _ _ _ _ => rfl)
  have Z_BadValue : ∀ base, Err1 PySem.Challenge.rw_turnways_k19_long_runs.prog w K mg base "BadValue" "value" (He.ga K "BadValue") := fun base => ⟨⟨_, _, errB_ok x_BadValue q_BadValue.1 q_BadValue.2, ok_errI F_eBadValue (errB_ok x_BadValue q_BadValue.1 q_BadValue.2) ⟨rfl, rfl, rfl, by decide +kernel, rfl, by decide +kernel, by decide +kernel⟩ rfl (by decide) (by decide)⟩, g_BadValue⟩
  have q_BadSize := fun_two (f := "size") F_eBadSize (fun _ _ _ _ _ _ _ _ => rfl) (fun _ _ _ _ _ _ _ _ => rfl)
  have Z_BadSize : ∀ base, Err1 PySem.Challenge.rw_turnways_k19_long_runs.prog w K mg base "BadSize" "size" (He.ga K "BadSize") := fun base => ⟨⟨_, _, errB_ok x_BadSize q_BadSize.1 q_BadSize.2, ok_errI F_eBadSize (errB_ok x_BadSize q_BadSize.1 q_BadSize.2) ⟨rfl, rfl, rfl, by decide +kernel, rfl, by decide +kernel, by decide +kernel⟩ rfl (by decide) (by decide)⟩, g_BadSize⟩
  have q_BadLimit := fun_two (f := "limit") F_eBadLimit (fun _ _ _ _ _ _ _ _ => rfl) (fun _ _ _ _ _ _ _ _ => rfl)
  have Z_BadLimit : ∀ base, Err1 PySem.Challenge.rw_turnways_k19_long_runs.prog w K mg base "BadLimit" "limit" (He.ga K "BadLimit") := fun base => ⟨⟨_, _, errB_ok x_BadLimit q_BadLimit.1 q_BadLimit.2, ok_errI F_eBadLimit (errB_ok x_BadLimit q_BadLimit.1 q_BadLimit.2) ⟨rfl, rfl, rfl, by decide +kernel, rfl, by decide +kernel, by decide +kernel⟩ rfl (by decide) (by decide)⟩, g_BadLimit⟩
  have q_NoThing := fun_two (f := "name") F_eNoThing (fun _ _ _ _ _ _ _ _ => rfl) (fun _ _ _ _ _ _ _ _ => rfl)
  have Z_NoThing : ∀ base, Err1 PySem.Challenge.rw_turnways_k19_long_runs.prog w K mg base "NoThing" "name" (He.ga K "NoThing") := fun base => ⟨⟨_, _, errB_ok x_NoThing q_NoThing.1 q_NoThing.2, ok_errI F_eNoThing (errB_ok x_NoThing q_NoThing.1 q_NoThing.2) ⟨rfl, rfl, rfl, by decide +kernel, rfl, by decide +kernel, by decide +kernel⟩ rfl (by decide) (by decide)⟩, g_NoThing⟩
  have q_NotHeld := fun_two (f := "lock") F_eNotHeld (fun _ _ _ _ _ _ _ _ => rfl) (fun _ _ _ _ _ _ _ _ => rfl)
  have Z_NotHeld : ∀ base, Err1 PySem.Challenge.rw_turnways_k19_long_runs.prog w K mg base "NotHeld" "lock" (He.ga K "NotHeld") := fun base => ⟨⟨_, _, errB_ok x_NotHeld q_NotHeld.1 q_NotHeld.2, ok_errI F_eNotHeld (errB_ok x_NotHeld q_NotHeld.1 q_NotHeld.2) ⟨rfl, rfl, rfl, by decide +kernel, rfl, by decide +kernel, by decide +kernel⟩ rfl (by decide) (by decide)⟩, g_NotHeld⟩
  have q_NoWork := fun_two (f := "number") F_eNoWork (fun _ _ _ _ _ _ _ _ => rfl) (fun _ _ _ _ _ _ _ _ => rfl)
  have Z_NoWork : ∀ base, Err1 PySem.Challenge.rw_turnways_k19_long_runs.prog w K mg base "NoWork" "number" (He.ga K "NoWork") := fun base => ⟨⟨_, _, errB_ok x_NoWork q_NoWork.1 q_NoWork.2, ok_errI F_eNoWork (errB_ok x_NoWork q_NoWork.1 q_NoWork.2) ⟨rfl, rfl, rfl, by decide +kernel, rfl, by decide +kernel, by decide +kernel⟩ rfl (by decide) (by decide)⟩, g_NoWork⟩
  have q_CanNot := fun_two (f := "number") F_eCanNot (fun _ _ _ _ _ _ _ _ => rfl) (fun _ _ _ _ _ _ _ _ => rfl)
  have Z_CanNot : ∀ base, Err1 PySem.Challenge.rw_turnways_k19_long_runs.prog w K mg base "CanNot" "number" (He.ga K "CanNot") := fun base => ⟨⟨_, _, errB_ok x_CanNot q_CanNot.1 q_CanNot.2, ok_errI F_eCanNot (errB_ok x_CanNot q_CanNot.1 q_CanNot.2) ⟨rfl, rfl, rfl, by decide +kernel, rfl, by decide +kernel, by decide +kernel⟩ rfl (by decide) (by decide)⟩, g_CanNot⟩
  have okIsV := fun (B0 : Heap) => ok_isV (P := PySem.Challenge.rw_turnways_k19_long_runs.prog) (w := w) (base := B0) F_isv B g_is_value b_isv 3
  have okSame := fun (B0 : Heap) => ok_sameD (P := PySem.Challenge.rw_turnways_k19_long_runs.prog) (w := w) (base := B0) F_same B g_same b_same 3 (by decide)
  have okCkV := fun (B0 : Heap) => ok_ckV (n := 3) F_ckv (okIsV B0) g_is_value F_isv.kp b_isv (Z_BadValue B0)
  have okCkT := fun (B0 : Heap) => ok_ckT F_ckt B (Z_NoThing B0)
  have okGoing := fun (B0 : Heap) => ok_going (P := PySem.Challenge.rw_turnways_k19_long_runs.prog) (w := w) (mg := mg) (base := B0) F_going T_Hand Z_Held
  have okHalt := fun (B0 : Heap) => ok_halt (P := PySem.Challenge.rw_turnways_k19_long_runs.prog) (w := w) (mg := mg) (base := B0) F_halt T_Hand Z_Held
  have okAsk := fun (B0 : Heap) => ok_ask F_ask B T_Hand (okHalt B0) g_halt F_halt.kp b_halt
  have okCall := fun (B0 : Heap) => ok_call (n := 3) F_ccall (okGoing B0) g_check_going F_going.kp b_going (okCkT B0) g_check_thing F_ckt.kp b_ckt (okCkV B0) g_check_value F_ckv.kp b_ckv
  have parts := fun (B0 : Heap) => (⟨⟨_, okCall B0, g_check_call, F_ccall.kp⟩, ⟨_, _, okAsk B0, g_ask, F_ask.kp, b_ask⟩⟩ : Parts PySem.Challenge.rw_turnways_k19_long_runs.prog w K mg B0 (He.ga K "Hand") (He.ga K "Held") (He.ga K "NoThing") (He.ga K "BadValue") 3)
  have ok_hlook := fun (B0 : Heap) => ok_look (CS := He.ga K "Shop") F_look T_Hand T_Shop (parts B0)
  have ok_hput := fun (B0 : Heap) => ok_put (CS := He.ga K "Shop") F_put T_Hand T_Shop (parts B0)
  have ok_hswap := fun (B0 : Heap) => ok_swap (CS := He.ga K "Shop") F_swap T_Hand T_Shop (parts B0)
  have ok_htrade := fun (B0 : Heap) => ok_trade (CS := He.ga K "Shop") F_trade T_Hand T_Shop (parts B0)
  have ok_huntil := fun (B0 : Heap) => ok_until (CS := He.ga K "Shop") F_until T_Hand T_Shop (parts B0)
  have ok_hlay := fun (B0 : Heap) => ok_lay (CS := He.ga K "Shop") F_lay T_Hand T_Shop (parts B0)
  have ok_hfetch := fun (B0 : Heap) => ok_fetch (CS := He.ga K "Shop") F_fetch T_Hand T_Shop (parts B0)
  have shorts := fun (B0 : Heap) => (⟨⟨_, _, okGoing B0, g_check_going, F_going.kp, b_going⟩, ⟨_, _, okCkV B0, g_check_value, F_ckv.kp, b_ckv⟩, ⟨_, _, okAsk B0, g_ask, F_ask.kp, b_ask⟩, ⟨_, _, okHalt B0, g_halt, F_halt.kp, b_halt⟩⟩ : Shorts PySem.Challenge.rw_turnways_k19_long_runs.prog w K mg B0 (He.ga K "Hand") (He.ga K "Held") (He.ga K "BadValue") 3)
  have ok_htake := fun (B0 : Heap) => ok_take (CS := He.ga K "Shop") F_take T_Hand T_Shop (parts B0)
  have ok_hreach := fun (B0 : Heap) => ok_reach (CS := He.ga K "Shop") F_reach T_Hand T_Shop (parts B0)
  have ok_hgive := fun (B0 : Heap) => ok_give (CS := He.ga K "Shop") F_give T_Hand T_Shop (parts B0) (Z_NotHeld B0)
  have ok_hrest := fun (B0 : Heap) => ok_rest F_rest T_Hand (shorts B0)
  have ok_hsay := fun (B0 : Heap) => ok_say F_say T_Hand (shorts B0)
  have askMs := fun (B0 : Heap) => (⟨⟨_, _, ok_hlook B0, h_Hand_look, b_look⟩, ⟨_, _, ok_hput B0, h_Hand_put, b_put⟩, ⟨_, _, ok_hswap B0, h_Hand_swap, b_swap⟩, ⟨_, _, ok_htrade B0, h_Hand_trade, b_trade⟩, ⟨_, _, ok_huntil B0, h_Hand_until, b_until⟩, ⟨_, _, ok_htake B0, h_Hand_take, b_take⟩, ⟨_, _, ok_hgive B0, h_Hand_give, b_give⟩, ⟨_, _, ok_hreach B0, h_Hand_reach, b_reach⟩, ⟨_, _, ok_hlay B0, h_Hand_lay, b_lay⟩, ⟨_, _, ok_hfetch B0, h_Hand_fetch, b_fetch⟩, ⟨_, _, ok_hrest B0, h_Hand_rest, b_rest⟩⟩ : AskMs PySem.Challenge.rw_turnways_k19_long_runs.prog w K mg B0 (He.ga K "Hand") (He.ga K "Shop") (He.ga K "Held") (He.ga K "NoThing") (He.ga K "BadValue") (He.ga K "NotHeld"))
  have okHI := fun (B0 : Heap) => ok_HI (P := PySem.Challenge.rw_turnways_k19_long_runs.prog) (w := w) (mg := mg) (base := B0) F_HI T_Hand
  have okPI := fun (B0 : Heap) => ok_PI (P := PySem.Challenge.rw_turnways_k19_long_runs.prog) (w := w) (mg := mg) (base := B0) F_PI T_Place
  have okRet := fun (kw : Nat) (B0 : Heap) => ok_ret (P := PySem.Challenge.rw_turnways_k19_long_runs.prog) (w := w) (mg := mg) (base := B0) (kw := kw) F_ret T_Hand g_Held
  have okCome := fun (B0 : Heap) => ok_come (CS := He.ga K "Shop") (n := 3) F_come B T_Hand T_Shop M_Hand (okHI B0) g_Hand b_HI (okRet 11 B0) g_returned F_ret.kp b_ret (okCkV B0) g_check_value F_ckv.kp b_ckv M_Place (okPI B0) g_Place b_PI
  have okTI := fun (B0 : Heap) => ok_TI (P := PySem.Challenge.rw_turnways_k19_long_runs.prog) (w := w) (mg := mg) (base := B0) F_TI T_Things
  have okFirst := fun (B0 : Heap) => ok_first (CS := He.ga K "Shop") F_first B T_Things T_Shop M_Things (okTI B0) g_Things b_TI
  have okAgain := fun (B0 : Heap) => ok_again F_again B T_Things M_Things (okTI B0) g_Things b_TI
  have okRoom := fun (B0 : Heap) => ok_room (P := PySem.Challenge.rw_turnways_k19_long_runs.prog) (w := w) (base := B0) F_room B T_Things
  have okNeed := fun (B0 : Heap) => ok_need F_need B T_Things (okSame B0) g_same F_same.kp b_same (okRoom B0) g_has_room F_room.kp b_room
  have okDlook := fun (B0 : Heap) => ok_do_look (P := PySem.Challenge.rw_turnways_k19_long_runs.prog) (w := w) (mg := mg) (base := B0) F_dlook T_Things
  have okDput := fun (B0 : Heap) => ok_do_put (P := PySem.Challenge.rw_turnways_k19_long_runs.prog) (w := w) (mg := mg) (base := B0) F_dput T_Things
  have okDswap := fun (B0 : Heap) => ok_do_swap (P := PySem.Challenge.rw_turnways_k19_long_runs.prog) (w := w) (mg := mg) (base := B0) F_dswap T_Things
  have okDtake := fun (B0 : Heap) => ok_do_take (P := PySem.Challenge.rw_turnways_k19_long_runs.prog) (w := w) (mg := mg) (base := B0) F_dtake T_Things
  have okDgive := fun (B0 : Heap) => ok_do_give (P := PySem.Challenge.rw_turnways_k19_long_runs.prog) (w := w) (mg := mg) (base := B0) F_dgive T_Things
  have okDreach := fun (B0 : Heap) => ok_do_reach (P := PySem.Challenge.rw_turnways_k19_long_runs.prog) (w := w) (mg := mg) (base := B0) F_dreach T_Things
  have okDlay := fun (B0 : Heap) => ok_do_lay (P := PySem.Challenge.rw_turnways_k19_long_runs.prog) (w := w) (mg := mg) (base := B0) F_dlay T_Things
  have okDfetch := fun (B0 : Heap) => ok_do_fetch (P := PySem.Challenge.rw_turnways_k19_long_runs.prog) (w := w) (mg := mg) (base := B0) F_dfetch T_Things
  have okDtrade := fun (B0 : Heap) => ok_do_trade F_dtrade T_Things (okSame B0) g_same F_same.kp b_same
  have okDnothing := fun (B0 : Heap) => ok_do_nothing (P := PySem.Challenge.rw_turnways_k19_long_runs.prog) (w := w) (mg := mg) (base := B0) F_dnothing
  obtain ⟨sIn, only⟩ := pick_by (A := Sp) [(He.ga K "do_look", spStep K (He.ga K "Things") dLook), (He.ga K "do_put", spStep K (He.ga K "Things") dPut), (He.ga K "do_swap", spStep K (He.ga K "Things") dSwap), (He.ga K "do_trade", spStep K (He.ga K "Things") (dTrade (RD K 3))), (He.ga K "do_nothing", spNothing), (He.ga K "do_take", spStep K (He.ga K "Things") dTake), (He.ga K "do_give", spStep K (He.ga K "Things") dGive), (He.ga K "do_reach", spStep K (He.ga K "Things") dReach), (He.ga K "do_lay", spStep K (He.ga K "Things") (dLay K)), (He.ga K "do_fetch", spStep K (He.ga K "Things") (dFetch K))] neS
  generalize hSS : (fun f => ([(He.ga K "do_look", spStep K (He.ga K "Things") dLook), (He.ga K "do_put", spStep K (He.ga K "Things") dPut), (He.ga K "do_swap", spStep K (He.ga K "Things") dSwap), (He.ga K "do_trade", spStep K (He.ga K "Things") (dTrade (RD K 3))), (He.ga K "do_nothing", spNothing), (He.ga K "do_take", spStep K (He.ga K "Things") dTake), (He.ga K "do_give", spStep K (He.ga K "Things") dGive), (He.ga K "do_reach", spStep K (He.ga K "Things") dReach), (He.ga K "do_lay", spStep K (He.ga K "Things") (dLay K)), (He.ga K "do_fetch", spStep K (He.ga K "Things") (dFetch K))] : List (Addr × Sp)).lookup f) = S at *
  replace sIn : ∀ p ∈ ([(He.ga K "do_look", spStep K (He.ga K "Things") dLook), (He.ga K "do_put", spStep K (He.ga K "Things") dPut), (He.ga K "do_swap", spStep K (He.ga K "Things") dSwap), (He.ga K "do_trade", spStep K (He.ga K "Things") (dTrade (RD K 3))), (He.ga K "do_nothing", spNothing), (He.ga K "do_take", spStep K (He.ga K "Things") dTake), (He.ga K "do_give", spStep K (He.ga K "Things") dGive), (He.ga K "do_reach", spStep K (He.ga K "Things") dReach), (He.ga K "do_lay", spStep K (He.ga K "Things") (dLay K)), (He.ga K "do_fetch", spStep K (He.ga K "Things") (dFetch K))] : List (Addr × Sp)), S p.1 = some p.2 := fun p hp => by rw [← hSS]; exact sIn p hp
  replace only : ∀ f y, S f = some y → (f, y) ∈ ([(He.ga K "do_look", spStep K (He.ga K "Things") dLook), (He.ga K "do_put", spStep K (He.ga K "Things") dPut), (He.ga K "do_swap", spStep K (He.ga K "Things") dSwap), (He.ga K "do_trade", spStep K (He.ga K "Things") (dTrade (RD K 3))), (He.ga K "do_nothing", spNothing), (He.ga K "do_take", spStep K (He.ga K "Things") dTake), (He.ga K "do_give", spStep K (He.ga K "Things") dGive), (He.ga K "do_reach", spStep K (He.ga K "Things") dReach), (He.ga K "do_lay", spStep K (He.ga K "Things") (dLay K)), (He.ga K "do_fetch", spStep K (He.ga K "Things") (dFetch K))] : List (Addr × Sp)) := fun f y h => by rw [← hSS] at h; exact only f y h
  have s_look := sIn _ (List.mem_cons_self ..)
  have s_put := sIn _ (List.mem_cons_of_mem _ (List.mem_cons_self ..))
  have s_swap := sIn _ (List.mem_cons_of_mem _ (List.mem_cons_of_mem _ (List.mem_cons_self ..)))
  have s_trade := sIn _ (List.mem_cons_of_mem _ (List.mem_cons_of_mem _ (List.mem_cons_of_mem _ (List.mem_cons_self ..))))
  have s_nothing := sIn _ (List.mem_cons_of_mem _ (List.mem_cons_of_mem _ (List.mem_cons_of_mem _ (List.mem_cons_of_mem _ (List.mem_cons_self ..)))))
  have s_take := sIn _ (List.mem_cons_of_mem _ (List.mem_cons_of_mem _ (List.mem_cons_of_mem _ (List.mem_cons_of_mem _ (List.mem_cons_of_mem _ (List.mem_cons_self ..))))))
  have s_give := sIn _ (List.mem_cons_of_mem _ (List.mem_cons_of_mem _ (List.mem_cons_of_mem _ (List.mem_cons_of_mem _ (List.mem_cons_of_mem _ (List.mem_cons_of_mem _ (List.mem_cons_self ..)))))))
  have s_reach := sIn _ (List.mem_cons_of_mem _ (List.mem_cons_of_mem _ (List.mem_cons_of_mem _ (List.mem_cons_of_mem _ (List.mem_cons_of_mem _ (List.mem_cons_of_mem _ (List.mem_cons_of_mem _ (List.mem_cons_self ..))))))))
  have s_lay := sIn _ (List.mem_cons_of_mem _ (List.mem_cons_of_mem _ (List.mem_cons_of_mem _ (List.mem_cons_of_mem _ (List.mem_cons_of_mem _ (List.mem_cons_of_mem _ (List.mem_cons_of_mem _ (List.mem_cons_of_mem _ (List.mem_cons_self ..)))))))))
  have s_fetch := sIn _ (List.mem_cons_of_mem _ (List.mem_cons_of_mem _ (List.mem_cons_of_mem _ (List.mem_cons_of_mem _ (List.mem_cons_of_mem _ (List.mem_cons_of_mem _ (List.mem_cons_of_mem _ (List.mem_cons_of_mem _ (List.mem_cons_of_mem _ (List.mem_cons_self ..))))))))))
  have held : ∀ (B0 : Heap) (f : Addr) (sp : Sp), S f = some sp → Held PySem.Challenge.rw_turnways_k19_long_runs.prog w K mg B0 5 f sp := fun B0 f sp e => by
    have m := only f sp e
    rcases List.mem_cons.mp m with m | m
    · cases m
      exact ⟨_, _, (okDlook B0).mono (by omega), F_dlook.kp, b_dlook⟩
    rcases List.mem_cons.mp m with m | m
    · cases m
      exact ⟨_, _, (okDput B0).mono (by omega), F_dput.kp, b_dput⟩
    rcases List.mem_cons.mp m with m | m
    · cases m
      exact ⟨_, _, (okDswap B0).mono (by omega), F_dswap.kp, b_dswap⟩
    rcases List.mem_cons.mp m with m | m
    · cases m
      exact ⟨_, _, (okDtrade B0).mono (by omega), F_dtrade.kp, b_dtrade⟩
    rcases List.mem_cons.mp m with m | m
    · cases m
      exact ⟨_, _, (okDnothing B0).mono (by omega), F_dnothing.kp, b_dnothing⟩
    rcases List.mem_cons.mp m with m | m
    · cases m
      exact ⟨_, _, (okDtake B0).mono (by omega), F_dtake.kp, b_dtake⟩
    rcases List.mem_cons.mp m with m | m
    · cases m
      exact ⟨_, _, (okDgive B0).mono (by omega), F_dgive.kp, b_dgive⟩
    rcases List.mem_cons.mp m with m | m
    · cases m
      exact ⟨_, _, (okDreach B0).mono (by omega), F_dreach.kp, b_dreach⟩
    rcases List.mem_cons.mp m with m | m
    · cases m
      exact ⟨_, _, (okDlay B0).mono (by omega), F_dlay.kp, b_dlay⟩
    cases List.mem_singleton.mp m
    exact ⟨_, _, (okDfetch B0).mono (by omega), F_dfetch.kp, b_dfetch⟩
  have okDStep := fun (B0 : Heap) => ok_do_step F_dstep g_STEPS (held B0)
  have sk : StepKs K w (He.ga K "Things") (He.ga K "STEPS") S := ⟨⟨_, k_rest, s_nothing⟩, ⟨_, k_until, s_nothing⟩, ⟨_, k_look, s_look⟩, ⟨_, k_put, s_put⟩, ⟨_, k_swap, s_swap⟩, ⟨_, k_trade, s_trade⟩, ⟨_, k_take, s_take⟩, ⟨_, k_give, s_give⟩, ⟨_, k_reach, s_reach⟩, ⟨_, k_lay, s_lay⟩, ⟨_, k_fetch, s_fetch⟩⟩
  have okWhole := fun (B0 : Heap) => ok_whole (P := PySem.Challenge.rw_turnways_k19_long_runs.prog) (w := w) (base := B0) F_whole B
  have okPlace := fun (B0 : Heap) => ok_place (CT := He.ga K "Things") (CP := He.ga K "Place") F_place B T_Run (okWhole B0) g_is_whole F_whole.kp b_whole (Z_NoWork B0)
  have okCanGo := fun (B0 : Heap) => ok_canGo (n := 3) F_cango T_Run T_Place (okNeed B0) g_need_not_wait F_need.kp b_need
  have okCan := fun (B0 : Heap) => ok_can (n := 3) RD.keeps F_can B T_Run (okCanGo B0) g_can_go F_cango.kp b_cango
  have okEnds := fun (B0 : Heap) => ok_ends (P := PySem.Challenge.rw_turnways_k19_long_runs.prog) (w := w) (base := B0) (CT := He.ga K "Things") F_ends B T_Run T_Place
  have okTurns := fun (B0 : Heap) => ok_turns (P := PySem.Challenge.rw_turnways_k19_long_runs.prog) (w := w) (base := B0) (CT := He.ga K "Things") (CP := He.ga K "Place") F_turns B T_Run
  have okSteps := fun (B0 : Heap) => ok_steps (P := PySem.Challenge.rw_turnways_k19_long_runs.prog) (w := w) (base := B0) (CT := He.ga K "Things") (CP := He.ga K "Place") F_steps B T_Run
  have okSaid := fun (B0 : Heap) => ok_said (CR := He.ga K "Run") (CT := He.ga K "Things") F_said T_Place (okPlace B0) g_place_of F_place.kp b_place
  have okOver := fun (B0 : Heap) => ok_over (n := 3) F_over T_Run h_Run_can (okCan B0) b_can
  have okStands := fun (B0 : Heap) => ok_stands (n := 3) F_stands T_Run (okOver B0) h_Run_is_over b_over (okEnds B0) h_Run_ends b_ends
  have okCell := fun (B0 : Heap) => ok_cell (CP := He.ga K "Place") F_cell T_Run T_Things (okCkT B0) g_check_thing F_ckt.kp b_ckt
  have okHolder := fun (B0 : Heap) => ok_holder (CP := He.ga K "Place") F_holder T_Run T_Things (okCkT B0) g_check_thing F_ckt.kp b_ckt
  have okBelt := fun (B0 : Heap) => ok_belt (CP := He.ga K "Place") F_belt T_Run T_Things (okCkT B0) g_check_thing F_ckt.kp b_ckt
  have okRI := fun (B0 : Heap) => ok_RI F_RI B T_Run T_Shop ((okFirst B0).mono (by omega : 3 ≤ 18)) g_first_things F_first.kp b_first ((okCome B0).mono (by omega : 11 + 3 + 4 ≤ 18)) g_come F_come.kp b_come
  have okGo := fun (B0 : Heap) => ok_go F_go T_Run T_Place (by omega : 2 ≤ 18) ((okPlace B0).mono (by omega)) g_place_of F_place.kp b_place ((okCanGo B0).mono (by omega)) g_can_go F_cango.kp b_cango (Z_CanNot B0) ((okAgain B0).mono (by omega)) g_things_again F_again.kp b_again ((okDStep B0).mono (by omega)) g_do_step F_dstep.kp b_dstep ((okCome B0).mono (by omega : 11 + 3 + 4 ≤ 18)) g_come F_come.kp b_come
  have okCkW := fun (B0 : Heap) => ok_ckW F_ckw B i_MOST_WORKS ⟨_, rfl⟩ (Z_BadWorks B0)
  have okWord := fun (B0 : Heap) => ok_word (P := PySem.Challenge.rw_turnways_k19_long_runs.prog) (w := w) (base := B0) F_word B i_LONGEST_WORD ⟨_, rfl⟩
  have okCkN := fun (B0 : Heap) => ok_names F_ckn mSet (okWord B0) g_is_word F_word.kp b_word
  have okCkS := fun (B0 : Heap) => ok_ckS F_cks (okWhole B0) g_is_whole F_whole.kp b_whole (Z_BadSize B0)
  have okCkL := fun (B0 : Heap) => ok_ckL F_ckl (okWhole B0) g_is_whole F_whole.kp b_whole (Z_BadLimit B0)
  have okCop := fun (B0 : Heap) => ok_copied (P := PySem.Challenge.rw_turnways_k19_long_runs.prog) (w := w) (base := B0) F_cop B
  have okSI := fun (B0 : Heap) => ok_SI (n := 3) F_SI B T_Shop (okCop B0) g_copied F_cop.kp b_cop (okCkW B0) g_check_works F_ckw.kp b_ckw (okCkN B0) g_check_names F_ckn.kp b_ckn (okCkV B0) g_check_value F_ckv.kp b_ckv (okCkS B0) g_check_size F_cks.kp b_cks (okCkL B0) g_check_limit F_ckl.kp b_ckl i_TOP_LONGEST ⟨_, rfl⟩ i_TOP_MOST ⟨_, rfl⟩
  have FSI : FunSI K (kwAt ("Shop", some "__init__") "locks" K) (He.fAd K ("Shop", some "__init__")) d_SI := D_SI
  have okLSource := fun (B0 : Heap) => ok_source (P := PySem.Challenge.rw_turnways_k19_long_runs.prog) (w := w) (base := B0) F_lsource B
  have okLDraw := fun (B0 : Heap) => ok_draw (P := PySem.Challenge.rw_turnways_k19_long_runs.prog) (w := w) (base := B0) F_ldraw B
  have okLPick := fun (B0 : Heap) => ok_pick F_lpick B (okLDraw B0) g__law_draw F_ldraw.kp b_ldraw
  have okLSame := fun (B0 : Heap) => ok_lsame (P := PySem.Challenge.rw_turnways_k19_long_runs.prog) (w := w) (base := B0) F_lsame B g__law_same b_lsame 8
  have okLSameD := fun (B0 : Heap) => ok_lsameD (P := PySem.Challenge.rw_turnways_k19_long_runs.prog) (w := w) (base := B0) F_lsame B g__law_same b_lsame 3 (by decide)
  have okLLed := fun (B0 : Heap) => ok_led (n := 19) F_lled B T_Run (by omega) ((okCan B0).mono (by omega : 3 + 4 ≤ 19)) h_Run_can b_can ((okGo B0).mono (by omega : 18 + 1 ≤ 19)) h_Run_go b_go (okLDraw B0) g__law_draw F_ldraw.kp b_ldraw
  have okLCount := fun (B0 : Heap) => ok_count F_lcounting B T_Hand (askMs B0)
  have okLHanding := fun (B0 : Heap) => ok_handing F_lhanding B T_Hand (askMs B0)
  have okLGetting := fun (B0 : Heap) => ok_getting F_lgetting B T_Hand (askMs B0) (ok_hsay B0) h_Hand_say b_say
  have memT : ((He.cT K ("law", none)).2, qLaw) ∈ (tf.map (He.cT K)).map fun p => (p.2, qLaw) := List.mem_cons_self ..
  have onlyT : ∀ p ∈ (tf.map (He.cT K)).map (fun p => (p.2, qLaw)), p.1 = (He.cT K ("law", none)).2 → p.2 = qLaw := fun p hp _ => by
    obtain ⟨q, _, rfl⟩ := List.mem_map.mp hp
    rfl
  refine ⟨d_law, tf.map (He.cT K), spLaw K ((tf.map (He.cT K)).map fun p => (p.2, qLaw)), fun p hp => ?_, fun p hp => ?_, fun p hp => ?_, binds_of F_law (fun _ _ _ _ _ _ _ => rfl), fun H a ns hl hbits hT hns => ⟨a, ns, rfl, hns, hl, fun p hp => ?_, fun _ => rfl⟩, fun base X0 G0 hTB => ?_⟩
  · obtain ⟨q, hq, rfl⟩ := List.mem_map.mp hp
    exact c.empty q hq
  · obtain ⟨q, hq, rfl⟩ := List.mem_map.mp hp
    exact c.out q hq
  · obtain ⟨q, hq, rfl⟩ := List.mem_map.mp hp
    exact codeHd_of_K KX (c.hd q hq)
  · obtain ⟨q, hq, rfl⟩ := List.mem_map.mp hp
    exact LamX.TabS.nil (hT q hq)
  · exact ok_law (N := 21) (kw := 10) (CN := He.ga K "NoThing") (CW := He.ga K "NoWork") (toFunC F_law) (hTB _ (List.mem_cons_self ..)) memT onlyT B mSum T_Run
      ⟨_, _, (okLSource base).mono (by omega : 1 ≤ 21), g__law_source, F_lsource.kp, b_lsource⟩ ⟨_, _, (okLDraw base).mono (by omega : 1 ≤ 21), g__law_draw, F_ldraw.kp, b_ldraw⟩ ⟨_, _, (okLPick base).mono (by omega : 2 ≤ 21), g__law_pick, F_lpick.kp, b_lpick⟩ ⟨_, _, (okLSame base).mono (by omega : 9 ≤ 21), g__law_same, F_lsame.kp, b_lsame⟩
      M_Shop ((okSI base).mono (by omega : 7 ≤ 21)) g_Shop FSI M_Run g_Run b_RI (fun B0 _ => (okRI B0).mono (by omega : 18 + 1 ≤ 21)) g__law_led F_lled.kp b_lled (fun B0 _ => (okLLed B0).mono (by omega : 19 + 1 ≤ 21))
      ⟨_, _, (okSteps base).mono (by omega : 1 ≤ 21), h_Run_steps, b_steps⟩ ⟨_, _, (okCell base).mono (by omega : 4 ≤ 21), h_Run_cell, b_cell⟩ ⟨_, _, (okStands base).mono (by omega : 3 + 6 ≤ 21), h_Run_stands, b_stands⟩ ⟨_, _, (okEnds base).mono (by omega : 1 ≤ 21), h_Run_ends, b_ends⟩
      ⟨_, _, (okSaid base).mono (by omega : 4 ≤ 21), h_Run_said, b_said⟩ ⟨_, _, (okHolder base).mono (by omega : 4 ≤ 21), h_Run_holder, b_holder⟩ ⟨_, _, (okBelt base).mono (by omega : 4 ≤ 21), h_Run_belt, b_belt⟩ ⟨_, _, (okTurns base).mono (by omega : 1 ≤ 21), h_Run_turns, b_turns⟩
      (fun B0 _ => (okLCount B0).mono (by omega : 9 ≤ 10)) g__law_counting F_lcounting.kp b_lcounting (fun B0 _ => (okLHanding B0).mono (by omega : 9 ≤ 10)) g__law_handing F_lhanding.kp b_lhanding (fun B0 _ => (okLGetting B0).mono (by omega : 9 ≤ 10)) g__law_getting b_lgetting (fnAt_K F_lgetting X0) xHH sk
end TWHead
open PySem PySem.W PySem.Calls PyProof.Rows
set_option maxRecDepth 100000 in
set_option maxHeartbeats 0 in
theorem PySem.Challenge.cw_turnways_k19_long_runs_holds : PySem.Challenge.rw_turnways_k19_long_runs.Holds := by
  w_on; o_law
  refine HandSHeadRun.head_any (r := OpenLaw.row PySem.Challenge.rw_turnways_k19_long_runs) (q := TWHead.qv) (H := TWHead.hk) (ob := TWHead.ob) (M := 40000) (loose := TWHead.names) (d := HandSHeadRun.topDef (OpenLaw.row PySem.Challenge.rw_turnways_k19_long_runs).prog 72) (kwd := []) TWHead.ob_eq
    (by kernel_rfl) (fun s => by kernel_rfl) TWHead.run (by kernel_rfl) (by kernel_rfl) (by kernel_rfl) (by rfl) (by first | assumption | decide +kernel) (by decide +kernel) ⟨rfl, rfl, rfl, rfl, rfl, by decide +kernel⟩ ?hw ?hc
  case hw => w_witness2
  case hc =>
    refine LamX.walk_ofTsE (l := PySem.Challenge.rw_turnways_k19_long_runs) (n := 63) (k := 23) (x := "_law_script") (CX := fun _ => L2.CX0) rfl (by decide) (by kernel_rfl) ⟨rfl, by decide, by decide⟩ ?F (fun _ _ _ _ _ z => z)
    intro w mg fa h Y G hmg0
    obtain ⟨K, KX, c⟩ := Y
    have hmg : mg ("law" : PySem.Str) = some (.ref fa) := by
      have e : (HandSHeadRun.topDef (OpenLaw.row PySem.Challenge.rw_turnways_k19_long_runs).prog 72).name = ("law" : PySem.Str) := by kernel_rfl
      rw [← e]
      exact hmg0
    exact ⟨K, KX, TWHead.at_end w mg fa h K KX c G hmg⟩
