import PyProof.Rows.All
import Wide.All
import OpenK.AllK
import Wide.FinOn
import PySem.Challenge.RW_turnways_k18_numbers_of_hands
import HandS.ForMost
import HandS.IsInst
import HandS.Exc
import HandS.ExcInit
import HandS.ExcIs
import HandS.ExcValue
import HandS.Lambda
import HandS.EndTab
import HandS.Defaults
import HandS.MakeKw
import HandS.ExcField
import HandS.TryOnly
import HandS.TryMany
import HandS.WordsExc
import HandS.Walk
import HandS.Zip
import KE.KStateDown
import HandS.Head0
import HandS.Head1
import HandS.Head2
import HandS.HeadEnd
import HandS.HeadHook1
import HandS.HeadHook2
import HandS.HeadHook3
import HandS.HeadHook4
import HandS.HeadWalk
import HandS.Dict
import HandS.Star
import HandS.CallLocal
import HandS.DictComp
import HandS.Flow
import HandS.SetKeys
import HandS.Text
import HandS.Conv
import KE.KeyNested
import KE.KDictList
import HandS.Iter
import HandS.TupAny
import HandS.MakeKwOnly
import HandS.Nested
import HandS.More
import HandS.Style
set_option Elab.async false
set_option linter.all false
set_option maxRecDepth 100000
set_option maxHeartbeats 0
/-! k18: one function that stands several times in a shop goes by its hand's number. Rules of one's own (errors, closures, dicts, calls over a larger base); the program's defs, one theorem each; a mirror of a run; the law's defs; the head by one kernel run with its facts; the end. -/
/-! Own errors as values: made by place and by name, asked by isinstance, their field read. -/
namespace PySem.W
open PySem PySem.Spec PySem.Calls PyProof.Rows
section
variable {prog : Program} {w : World} {A : Around} {E : Value → Shared → Prop} {s : Shared} {K : Frag} {x D : Addr} {ox : Obj} {od : Option Obj}
theorem ve_findData {C : Addr} {name : Str} {a g : Value} (hc : (clsIn K C).isSome = true) (ha : findIn K (.ref C) name = some (some a)) (hg : specialIn K a "__get__" = some (some g)) (ht : takesIn K a = some true) : findObj K C od name = some (.bind g a) := by
  obtain ⟨cd, hc⟩ := Option.isSome_iff_exists.mp hc
  unfold findObj
  rw [hc, Option.bind_some, ha, Option.bind_some]
  simp [hg, ht]
/-- what isinstance leans on, of the class at D of an error -/
structure AsksOf (K : Frag) (D : Addr) : Prop where
  by_ : findIn K (.ref D) "__getattribute__" = some (some (.builtin "BaseException.__getattribute__"))
  else_ : findIn K (.ref D) "__getattr__" = some none
  isE : subIn K (.ref D) (.type "BaseException") = some true
  dct : hasDictIn K D = true
  clsA : findIn K (.ref D) "__class__" = some (some (.builtin "object.__class__"))
  got : specialIn K (.builtin "object.__class__") "__get__" = some (some (.builtin "getset_descriptor.__get__"))
  took : takesIn K (.builtin "object.__class__") = some true
  obj : mroIn K D (.type "object") = some true
/-- e.__class__ of an error e, whether or not it has a dict of its own -/
theorem ve_class {Q : Option Value → Shared → Prop} (Z : AsksOf K D) (X : K.In s.heap) (I : InstAt s.heap x ox D od) (done : Q (some (.ref D)) { s with toks := s.toks + 1 }) :
    wpAny (model prog w) A (getAttr? (.ref x) "__class__") Q E s := by
  have known : (clsIn K D).isSome = true := by
    obtain ⟨cd, e, _⟩ := any_some Z.dct
    rw [e]
    rfl
  have found : findObj K D od "__class__" = some (.bind (.builtin "getset_descriptor.__get__") (.builtin "object.__class__")) :=
    ve_findData known Z.clsA Z.got Z.took
  have other : (Value.builtin "BaseException.__getattribute__" == Value.builtin "object.__getattribute__") = false := by
    decide +kernel
  have noHeap : (onTheHeap (Value.ref D) && Value.builtin "BaseException.__getattribute__" == Value.builtin "object.__getattribute__") = false := by
    rw [other]
    rfl
  have noExpr : (false && onTheHeap (Value.builtin "BaseException.__getattribute__")) = false := rfl
  obtain ⟨hp, g, d, t, os⟩ := s
  have ofType := I.type (M := model prog w)
  have ofBy := looks_findIn (M := model prog w) X Z.by_
  have ofElse := looks_findIn (M := model prog w) X Z.else_
  have ofCls := looks_find (M := model prog w) X I found
  have isErr : Looks (model prog w) hp (isInstance (.ref x) (.type "BaseException")) true :=
    ofType.andThen (looks_subIn X Z.isE)
  unfold getAttr? getAttrBy? getAttrBy
  refine wpAny_bind (wpAny_mkText (wpAny_bind ?_))
  refine wpAny_attempt (wpAny_holding (wpAny_bind ?_))
  refine ofType.at (wpAny_bind (ofBy.at ?_))
  show wpAny _ _ (if (onTheHeap (Value.ref D) && Value.builtin "BaseException.__getattribute__" == Value.builtin "object.__getattribute__") = true then _ else _) _ _ _
  rw [noHeap, if_neg Bool.false_ne_true]
  unfold getAttrByItsOwn hookBefore
  refine wpAny_bind ?_
  rw [if_pos (show onTheHeap (Value.ref D) = true from rfl)]
  refine ofElse.at (wpAny_bind ?_)
  refine wpAny_attempt (wpAny_holding ?_)
  unfold callGetattribute
  rw [noExpr, if_neg Bool.false_ne_true]
  unfold boundAndCalled
  rw [PySem.F.excAttr_ValueError.ga.bind (.ref x)]
  refine wpAny_bind (wpAny_pure ?_)
  show wpAny _ _ (call (.builtin "BaseException.__getattribute__") [.ref x, .str "__class__" t]) _ _ _
  refine wpAny_call (codeAny_call_builtin PySem.F.excAttr_ValueError.ga.plain PySem.F.entry_bexc_ga ?_)
  refine @check_slot (model prog w) _ _ ⟨hp, g, d, t + 1, os⟩ "BaseException.__getattribute__" "BaseException" "__getattribute__" (.ref x) [.str "__class__" t] []
    _ (by decide +kernel) (by decide +kernel) isErr (PySem.F.args_bexc_ga (.ref x) (.str "__class__" t)) ?_
  unfold Builtin.«object.__getattribute__»
  refine wpAny_bind ?_
  refine wpAny_of_eq (a := ((Value.ref x : Value), [Value.str "__class__" t])) (by first | rfl | (simp only [slotArgs]; rfl)) ?_
  refine wpAny_bind (wpAny_pure (wpAny_bind (ofType.at (wpAny_bind ?_))))
  refine ofCls.at ?_
  show wpAny _ _ (holding [Value.builtin "object.__class__"] (call (.builtin "getset_descriptor.__get__") [.builtin "object.__class__", .ref x, .ref D]) >>= ret) _ _ _
  refine wpAny_bind (wpAny_holding (wpAny_call ?_))
  refine class_get (s := ⟨hp, g, d, t + 1, os⟩) (ox := ox) (od := od) X I Z.obj (wpAny_pure ?_)
  show wpAny _ _ (handedOut (.ref D)) _ _ _
  rw [handedOut_of (v := .ref D) rfl]
  first
    | exact wpAny_pure (wpAny_pure done)
    | exact wpAny_pure done
    | exact wpAny_pure (wpAny_bind (wpAny_pure (wpAny_pure done)))
theorem cls_there {D : Addr} (Z : AsksOf K D) : ∃ o c, K.lookup D = some o ∧ o.data = .cls c := by
  obtain ⟨c, e, _⟩ := any_some Z.dct
  unfold clsIn at e
  split at e
  · rename_i q
    exact ⟨_, _, q, rfl⟩
  · cases e
theorem ve_kitx (Z : AsksOf K D) : KitX K (.ref x) (.ref D) (fun h => InstAt h x ox D od) := by
  obtain ⟨o, c, q, hd⟩ := cls_there Z
  refine ⟨fun _ _ _ I => I.type, fun _ _ X _ => ?_, fun h tp dd its n sl X tup => ?_, fun X I k => ve_class Z X I k⟩
  · intro A' Q' E' s' kept done
    unfold isType loadHead
    refine wpAny_bind (wpAny_loadPart (kept _ _ (X _ _ q)) ?_)
    obtain ⟨oc, od', dt, sl⟩ := o
    subst hd
    exact wpAny_pure done
  · refine Bool.eq_false_iff.mpr fun z => ?_
    have e : D = tp := Value.ref.inj (beq_iff_eq.mp z)
    rw [← e, X _ _ q] at tup
    have y := Option.some.inj tup
    rw [y] at hd
    cases hd
end
end PySem.W

namespace L2
open PySem PySem.Spec PyProof.Rows
/-- an error of the class at C stands at a: with a dict of its fields, or without any -/
def ErrAt (H : Hp) (a C : Addr) : Prop := (∃ d fs, H a = some (exo a C (some d)) ∧ H d = some (exd d fs)) ∨ H a = some (ExO (.ref C) a)
theorem ErrAt.same {H H' : Hp} {a C : Addr} (e : Same H H') (h : ErrAt H a C) : ErrAt H' a C := by
  rcases h with ⟨d, fs, h1, h2⟩ | h
  · exact .inl ⟨d, fs, e _ _ h1, e _ _ h2⟩
  · exact .inr (e _ _ h)
theorem ErrAt.inst {P : Program} {w : World} {H : Hp} {h : Heap} {a C : Addr} (hok : HOk P w H h) (e : ErrAt H a C) : ∃ (ox : Obj) (od : Option Obj), PySem.W.InstAt h a ox C od := by
  rcases e with ⟨d, fs, h1, h2⟩ | h1
  · obtain ⟨t1, ho⟩ := exo_at hok h1
    obtain ⟨mA, hns, _⟩ := exd_at hok h2
    obtain ⟨od, hod, _⟩ := lookIn_ns hns
    exact ⟨_, some od, ho, rfl, rfl, hod⟩
  · obtain ⟨⟨oe, vs, ho, hz, hd, _⟩, _, _⟩ := hok a _ h1
    obtain ⟨oc, odd, dt, sl⟩ := oe
    obtain ⟨z1, z2⟩ := hz
    dsimp only at z1 z2 hd
    subst z1 z2 hd
    exact ⟨_, none, ho, rfl, rfl, trivial⟩
/-- isinstance(e, c), e such an error -/
def rIsV (K : PySem.W.Frag) : List V → Hp → VK → Prop := fun xs H Q => ∃ (a D : Addr) (c : V) (cv : Value) (b : Bool), xs = [.ref a, c] ∧ ErrAt H a D ∧ ExcC K D ∧ ClsV c cv ∧ PySem.W.kitOne K (.ref D) cv = some b ∧ Q (.bl b) H
theorem call_isV {X : Cx} : CallR X (.builtin "isinstance") (rIsV X.K) := by
  intro pins s σ H xs us Q I r h
  obtain ⟨a, D, c, cv, b, rfl, hE, C, k, e, q⟩ := h
  obtain ⟨u1, u2, rfl, r1, r2⟩ := vals2 r
  have e2 := k.eq r2
  subst e2
  cases (show u1 = Value.ref a from r1)
  obtain ⟨ox, od, J⟩ := hE.inst I.hok
  exact PySem.W.kia_one (PySem.W.ve_kitx ⟨C.hg, C.hk, C.hs, C.hd, C.ha, C.hn, C.ht, C.hm⟩) I.kIn J e (fun z => nomatch z) fun tk => ⟨.bl b, H, I.tok tk, rfl, q⟩
end L2
namespace PySem
namespace ErrV
open PySem.Spec PySem.Calls PyProof.Rows PySem.HandSPX
section
variable {prog : Program} {w : World} {A : Around} {E : Value → Shared → Prop} {R : Result → Shared → Prop} {h : Heap} {g : Array GenState} {d : Drawn} {t : Nat} {os : OsState}
variable {nm q : Str} {C N : Addr} {bs bm bmB : List Value} {hdct : Bool} {sn : List Str} {sub : List Value} {ab : Bool} {col : Option Bool} {dd : Option Addr} {k0 k1 k2 k3 k5 : Option Value} {B newId initId : String}
variable {rest : List Value} {kw : List (Str × Value)} {fI : Addr}

/-- __new__ asks nothing of the keywords -/
theorem asks_new (F : ExcBaseFacts B newId initId bmB) (hT : ∀ X : String, bm.contains (.type X) = bmB.contains (.type X)) {Q : Unit → Shared → Prop} {M : Model}
    (hC : h.get? C = some (excClassObj nm q C N bs bm hdct sn sub ab col dd k0 k1 k2 k3 k5 newId)) (hq : Q () ⟨h, g, d, t, os⟩) :
    wpAny M A (checkBuiltinCall newId ⟨.ref C :: rest, kw⟩) Q E ⟨h, g, d, t, os⟩ := by
  have inB : (Value.ref C :: bm).contains (.type B) = true := by
    rw [List.contains_cons, hT, F.hasB, Bool.or_true]
  have one := F.noStar
  simp only [checkBuiltinCall, F.newKind, F.newSplit, F.newRow]
  repeat (first
    | refine wpAny_loadPart_at hC ?_
    | (refine wpAny_isSubtype_exc hC ?_; rw [inB])
    | refine wpAny_staticBase_exc hC ?_
    | refine wpAny_madeBy_exc hC ?_
    | simp only [bne_self_eq_false, Bool.false_eq_true, if_false]
    | wp_step)
  exact hq
/-- __new__ keeps the arguments by place alone -/
theorem does_new (F : ExcBaseFacts B newId initId bmB) (hT : ∀ X : String, bm.contains (.type X) = bmB.contains (.type X))
    (hC : h.get? C = some (excClassObj nm q C N bs bm hdct sn sub ab col dd k0 k1 k2 k3 k5 newId)) (few : rest.length ≤ sizeLine)
    (hq : R (.ok (.ret (.ref (h.objs.size + 1)))) ⟨(h.push (W.kdv_tup rest)).push (excO C h.objs.size), g, d, t, os⟩) :
    codeAny (model prog w) A (.builtin newId ⟨.ref C :: rest, kw⟩) R ⟨h, g, d, t, os⟩ := by
  have ends := F.ends
  have inB : (Value.ref C :: bm).contains (.type B) = true := by
    rw [List.contains_cons, hT, F.hasB, Bool.or_true]
  have noA : (Value.ref C :: bm).contains (.type "AttributeError") = false := by
    rw [List.contains_cons, hT, F.noAttr]
    rfl
  have noN : (Value.ref C :: bm).contains (.type "NameError") = false := by
    rw [List.contains_cons, hT, F.noName]
    rfl
  refine codeAny_builtinAt F.entry ?_
  unfold Builtin.«BaseException.__new__»
  refine wpAt_bind ?_
  show wpAt _ _ _ (stack >>= _) _ _ _
  refine wpAt_bind (wpAt_stack fun p below => wpAt_of_wpAny ?_)
  wp_walk
  refine wpAt_of_wpAny ?_
  rw [F.owner]
  repeat (first
    | with_reducible refine wpAny_madeHere_exc F.canon hC ?_
    | with_reducible refine wpAny_loadPart_at hC ?_
    | (with_reducible refine wpAny_isSubtype_exc hC ?_
       first | rw [inB] | rw [noA] | rw [noN])
    | wp_step)
  show R _ _
  rw [Heap.size_push]
  exact hq
/-- the class is called: __new__, then its own __init__, both with all that was passed -/
theorem class_call (F : ExcBaseFacts B newId initId bmB) (hT : ∀ X : String, bm.contains (.type X) = bmB.contains (.type X)) {Q : Fin → Shared → Prop}
    (hC : h.get? C = some (excClassObj nm q C N bs bm hdct sn sub ab col dd k0 k1 k2 k3 k5 newId))
    (hi : W.Looks (model prog w) h (typeLookup (.ref C) "__init__") (some (.ref fI))) (hb : ∀ self, W.Looks (model prog w) h (bindSpecial (.ref fI) self) (.ref fI, [self])) (few : rest.length ≤ sizeLine)
    (hq : codeAny (model prog w) A (.call (.ref fI) ⟨.ref (h.objs.size + 1) :: rest, kw⟩)
      (fun r s' => match r with | .ok (.ret v) => v = .none ∧ Q (.done (.ret (.ref (h.objs.size + 1)))) s' | .ok _ => False | .error e => E e s')
      ⟨(h.push (W.kdv_tup rest)).push (excO C h.objs.size), g, d, t, os⟩) :
    wpAny (model prog w) A (Builtin.«type.__call__» ⟨.ref C :: rest, kw⟩) Q E ⟨h, g, d, t, os⟩ := by
  repeat (first
    | with_reducible refine wpAny_loadPart_at hC ?_
    | with_reducible refine wpAny_madeBy_exc hC ?_
    | wp_step)
  refine codeAny_call_builtin_code (Code.quiet_builtin _ F.quiet) (asks_new F hT hC ?_)
  refine does_new F hT hC few ?_
  show wpAny _ _ _ _ _ _
  have kept : ∀ b o, h.get? b = some o → ((h.push (W.kdv_tup rest)).push (excO C h.objs.size)).get? b = some o := fun b o e =>
    Heap.get?_push_of_some _ (Heap.get?_push_of_some _ e)
  have cls' := kept _ _ hC
  have here : ((h.push (W.kdv_tup rest)).push (excO C h.objs.size)).get? (h.objs.size + 1) = some (excO C h.objs.size) := by
    heap_get
  have inC : (Value.ref C :: bm).contains (.ref C) = true := by
    simp
  have look := hi.keeps kept
  have bind := (hb (.ref (h.objs.size + 1))).keeps kept
  unfold isInstance
  repeat (first
    | with_reducible refine wpAny_loadPart_at here ?_
    | (with_reducible refine wpAny_isSubtype_exc cls' ?_
       rw [inC])
    | wp_step)
  show wpAny _ _ (typeLookup (.ref C) _) _ _ _
  refine look.at ?_
  refine wpAny_holding (wpAny_bind (bind.at ?_))
  refine wpAny_bind (wpAny_call (codeAny_mono hq fun r s' z => ?_))
  rcases r with e | (v | _ | _ | _) <;> first
    | exact z
    | exact z.elim
    | skip
  obtain ⟨rfl, z⟩ := z
  first
    | exact wpAny_pure (wpAny_pure z)
    | (wp_walk
       exact z)
theorem call_err (F : ExcBaseFacts B newId initId bmB) (hT : ∀ X : String, bm.contains (.type X) = bmB.contains (.type X))
    (hC : h.get? C = some (excClassObj nm q C N bs bm hdct sn sub ab col dd k0 k1 k2 k3 k5 newId))
    (hi : W.Looks (model prog w) h (typeLookup (.ref C) "__init__") (some (.ref fI))) (hb : ∀ self, W.Looks (model prog w) h (bindSpecial (.ref fI) self) (.ref fI, [self])) (few : rest.length ≤ sizeLine)
    (hq : codeAny (model prog w) (A.under (.builtin "type.__call__" ⟨.ref C :: rest, kw⟩)) (.call (.ref fI) ⟨.ref (h.objs.size + 1) :: rest, kw⟩) (W.InitBack (h.objs.size + 1) R)
      ⟨(h.push (W.kdv_tup rest)).push (excO C h.objs.size), g, d, t, os⟩) :
    codeAny (model prog w) A (.call (.ref C) ⟨rest, kw⟩) R ⟨h, g, d, t, os⟩ := by
  have f1 := tc_lookup
  have f2 := tc_bind (.ref C)
  have isT : (⟨h, g, d, t, os⟩ : Shared).TypeIs (.ref C) "type" := ⟨_, hC, rfl⟩
  refine codeAny_of_tree ?_
  show wpAny _ _ (callAny (.ref C) _) _ _ _
  repeat (any_goals (first
    | assumption
    | with_reducible refine wpAny_loadPart_at hC ?_
    | wp_step))
  refine ⟨rfl, ?_⟩
  refine codeAny_call_builtin_at (Code.quiet_builtin _ (by decide +kernel)) entry_typeCall (wpAny_check_type_call_sub hC (class_call F hT hC hi hb few ?_))
  refine codeAny_mono hq fun r s' z => ?_
  rcases r with e | (v | _ | _ | _) <;> exact z
end
end ErrV
end PySem
namespace L2
open PySem PySem.Spec PyProof.Rows
/-- what the top has written of an error of its own: its class at C, its one field f, its __init__ at fI -/
structure ErrC (K : PySem.W.Frag) (C fI : Addr) (f : Str) (fd : FuncData) : Prop where
  t : OexC K C
  e : ExcC K C
  x : XfC K C
  no : PySem.W.findIn K (.ref C) f = some none
  iC : PySem.W.findIn K (.ref C) "__init__" = some (some (.ref fI))
  tI : PySem.W.typeIn K (.ref fI) = some (.type "function")
  bp : ∀ (s : Shared) (u v : Value), BindsTo s fd ⟨[u, v], []⟩ [("self", u), (f, v)]
  bk : ∀ (s : Shared) (u v : Value), BindsTo s fd ⟨[u], [(f, v)]⟩ [("self", u), (f, v)]
/-- __init__: self.f = what was passed -/
def spErrI (C : Addr) (f : Str) : Sp := fun vs H Q _ => ∃ (a : Addr) (v : V), vs = [.ref a, v] ∧ H a = some (exo a C none) ∧
  ∀ d, H d = none → d ≠ a → Q .non (upd (upd H d (exd d [(f, v)])) a (exo a C (some d)))
section
variable {P : Program} {w : World} {K : PySem.W.Frag} {mg : Str → Option Value} {base : Heap}
theorem ok_errI {C fI : Addr} {f qual : Str} {st : Stmt} {fd : FuncData} {q1 q2 q3 q4 : Pos} (F : Fun K "__init__" qual st fI fd) (Z : ErrC K C fI f fd) (S : FnScope ["self", f] ["self", f] (defScope st))
    (hb : defBody st = [.Assign [.Attribute (.Name "self" q1) f q2] (.Name f q3) q4]) (hd : (f == ("__debug__" : Str)) = false) (hcd : (f == ("__classdict__" : Str)) = false) :
    FnOk P w K mg base CX0 1 fI fd ["self", f] (spErrI C f) := by
  refine F.ok S (fun vs H Q E h => ?_) (fun cdv A outer s H vs Q E hr h => ?_)
  · obtain ⟨a, v, rfl, _⟩ := h
    rfl
  · obtain ⟨a, v, rfl, ha, k⟩ := h
    rw [hb]
    have v0 : Vis (defScope st) "self" := (S.par "self" (List.mem_cons_self ..)).elim .inl fun z => .inr (.inl z)
    have v1 : Vis (defScope st) f := (S.par f (List.mem_cons_of_mem _ (List.mem_cons_self ..))).elim .inl fun z => .inr (.inl z)
    refine ⟨_, pss_one (ps_ost (pe_var (i := 0) (by rfl) v0) (pe_var (i := 1) (by rfl) v1 hd hcd)), ?_⟩
    exact ⟨_, rfl, _, rfl, a, C, rfl, Z.t, Z.no, .inl ⟨ha, fun d n ne => k d n ne⟩⟩
end
/-- C(e) | C(f=e) -/
def tErr (C : Addr) (f : Str) (ta : TA) : TE := fun σ H Q => ta σ H fun vs H1 => ∃ v, vs = [v] ∧ ∀ a d, H1 a = none → H1 d = none → d ≠ a → Q (.ref a) (upd (upd H1 d (exd d [(f, v)])) a (exo a C (some d)))
theorem upd_back {H : Hp} {a d : Addr} {o u z : HO} (ne : d ≠ a) : upd (upd (upd H a o) d u) a z = upd (upd H d u) a z := by
  funext b
  by_cases hb : b = a
  · rw [hb, upd_same, upd_same]
  · rw [upd_ne hb, upd_ne hb]
    by_cases hd : b = d
    · rw [hd, upd_same, upd_same]
    · rw [upd_ne hd, upd_ne hd, upd_ne hb]
section
variable {X : Cx} {C fI : Addr} {f x : Str} {fd : FuncData} {k : Nat} {p pos : Pos} {e : Expr} {es : List Expr} {ta : TA}
theorem run_err {pins : List (Addr × Obj)} {σ : St} {H : Hp} {s : Shared} {Q : VK} {v : V} {u : Value} {us : List Value} {kw : List (Str × Value)} (Z : ErrC X.K C fI f fd) (Gi : FnOk X.prog X.w X.K X.mg X.base CX0 k fI fd ["self", f] (spErrI C f)) (hr : Room (k + 1) X.A)
    (few : us.length ≤ sizeLine) (hb : ∀ (s : Shared) (z : Value), BindsTo s fd ⟨z :: us, kw⟩ [("self", z), (f, u)]) (I : Inv X pins σ H s) (r : RelV v u)
    (h : ∀ a d, H a = none → H d = none → d ≠ a → Q (.ref a) (upd (upd H d (exd d [(f, v)])) a (exo a C (some d)))) : wpAny (model X.prog X.w) X.A (call (.ref C) us kw) (EP X pins σ Q) X.xe s := by
  obtain ⟨nm, q, N, bs, bm, sn, sub, ab, col, dd, k0, k1, k2, k3, k5, hC, hbm⟩ := Z.t.cls
  obtain ⟨hp, g, dr, tk, os⟩ := s
  have up : hp.objs.size ≤ hp.objs.size + 1 := Nat.le_succ _
  have free : H (hp.objs.size + 1) = none := I.hok.fresh up
  have old : ∀ b o, hp.get? b = some o → ((hp.push (PySem.W.kdv_tup us)).push (PySem.HandSPX.excO C hp.objs.size)).get? b = some o := fun b o z =>
    Heap.get?_push_of_some _ (Heap.get?_push_of_some _ z)
  have new : ((hp.push (PySem.W.kdv_tup us)).push (PySem.HandSPX.excO C hp.objs.size)).get? (hp.objs.size + 1) = some (PySem.HandSPX.excO C hp.objs.size) := by
    heap_get
  have J : Inv X pins σ (upd H (hp.objs.size + 1) (exo (hp.objs.size + 1) C none)) ⟨(hp.push (PySem.W.kdv_tup us)).push (PySem.HandSPX.excO C hp.objs.size), g, dr, tk, os⟩ :=
    I.laid (t' := tk) (a := hp.objs.size + 1) (o := exo (hp.objs.size + 1) C none) (h' := (hp.push (PySem.W.kdv_tup us)).push (PySem.HandSPX.excO C hp.objs.size)) old up (exo_ok new)
  have both : Vals [V.ref (hp.objs.size + 1), v] [Value.ref (hp.objs.size + 1), u] := .cons rfl (.cons r .nil)
  have asked : spErrI C f [V.ref (hp.objs.size + 1), v] (upd H (hp.objs.size + 1) (exo (hp.objs.size + 1) C none)) (fun z H2 => z = .non ∧ Q (.ref (hp.objs.size + 1)) H2) (fun _ _ _ => False) := by
    refine ⟨_, v, rfl, upd_same, fun d hd ne => ⟨rfl, ?_⟩⟩
    rw [upd_back ne]
    exact h _ d free (by rw [upd_ne ne] at hd; exact hd) ne
  refine wpAny_call (PySem.ErrV.call_err PySem.F.excBase_ValueError (fun Y => PySem.HandSPX.refsVE_contains Y bm hbm) (I.kIn _ _ hC) (PySem.W.looks_findIn I.kIn Z.iC) (fun self => PySem.W.bind_fn I.kIn self Z.tI) few
    (codeAny_mono (Gi.run _ X.stack _ _ ⟨Value.ref (hp.objs.size + 1) :: us, kw⟩ [Value.ref (hp.objs.size + 1), u] _ _ (fun _ _ _ => False) (hr.make C us kw) (J.env0.make C us kw) (hb _ _) both asked) fun r s' back => ?_))
  cases r with
  | error er => exact pass0 pins σ _ _ er s' J back
  | ok fl =>
    cases fl with
    | ret z =>
      obtain ⟨y, H2, J2, rz, ey, q2⟩ := J.after back
      subst ey
      exact ⟨rz, ⟨V.ref (hp.objs.size + 1), H2, J2, rfl, q2⟩⟩
    | next => exact False.elim back
    | brk => exact False.elim back
    | cont => exact False.elim back
theorem one_few (u : Value) : [u].length ≤ sizeLine := by
  rw [sizeLine_eq]
  show 1 ≤ 16777216
  decide
theorem pe_err (Z : ErrC X.K C fI f fd) (F : FnOk X.prog X.w X.K X.mg X.base CX0 k fI fd ["self", f] (spErrI C f)) (hr : Room (k + 1) X.A) (hm : X.mg x = some (.ref C)) (ha : PA X [e] ta) (hg : Gl X x := by rfl)
    (hdb : (x == ("__debug__" : Str)) = false := by decide) (he : starEach [e] X.env = (false, eval e X.env) :: starEach [] X.env := by rfl) (hpl : (backTo pos (starEach [] X.env)).any (·.1) = false := by rfl) :
    PE X (.Call (.Name x p) [e] [] pos) (tErr C f ta) := by
  refine ⟨fun pins s σ H Q I h => ?_⟩
  refine wpAny_Call_Name_kw (ld_glob I hg hm ?_ hdb)
  refine PySem.W.callWith_K (h₀ := X.base) I.ok.mod.kin Z.t.kC (thn (ha.run pos pins s σ H _ I h) fun us s1 ⟨vs, H1, I1, r1, v, ev, q1⟩ => ⟨I1.kIn, ?_⟩) he hpl
  subst ev
  cases r1 with
  | cons r0 rn =>
    cases rn
    exact run_err Z F hr (one_few _) (fun s z => Z.bp s z _) I1 r0 q1
theorem pe_errK {nm : Option Str} {kp : Pos} {te : TE} (Z : ErrC X.K C fI f fd) (F : FnOk X.prog X.w X.K X.mg X.base CX0 k fI fd ["self", f] (spErrI C f)) (hr : Room (k + 1) X.A) (hm : X.mg x = some (.ref C)) (ha : PE X e te) (hn : nm = some f) (hg : Gl X x := by rfl)
    (hdb : (x == ("__debug__" : Str)) = false := by decide) (hall : (backToKw pos (keywordEach [⟨nm, e, kp⟩] X.env)).all (·.1.isSome) = true := by rfl)
    (hpl : ((backTo pos (starEach [] X.env)).any (·.1) || (backToKw pos (keywordEach [⟨nm, e, kp⟩] X.env)).any (·.1.isNone)) = false := by rfl) :
    PE X (.Call (.Name x p) [] [⟨nm, e, kp⟩] pos) (tErr C f (tCons te tNil)) := by
  subst hn
  refine ⟨fun pins s σ H Q I h => ?_⟩
  refine wpAny_Call_Name_kw (ld_glob I hg hm ?_ hdb)
  refine PySem.W.callWith_KW0 (h₀ := X.base) I.ok.mod.kin Z.t.kC hall (thn ((pk_cons (nm := some f) (kpos := kp) ha pk_nil).run pos pins s σ H _ I h) fun us s1 ⟨vs, H1, I1, r1, v, ev, q1⟩ => ⟨I1.kIn, ?_⟩) hpl
  subst ev
  cases r1 with
  | cons r0 rn =>
    cases rn
    exact run_err Z F hr (by show 0 ≤ sizeLine; exact Nat.zero_le _) (fun s z => Z.bk s z _) I1 r0 q1
/-- e.f -/
def tErrF (C : Addr) (f : Str) (te : TE) : TE := fun σ H Q => te σ H fun x H1 => ∃ (a d : Addr) (fs : List (Str × V)) (v : V), x = .ref a ∧ H1 a = some (exo a C (some d)) ∧ H1 d = some (exd d fs) ∧ fs.lookup f = some v ∧ Q v H1
theorem pe_errF {te : TE} {D : Addr} (T : XfC X.K D) (hno : PySem.W.findIn X.K (.ref D) f = some none) (he : PE X e te) (hb : attributeBase e f X.env (eval e X.env) = eval e X.env := by rfl) : PE X (.Attribute e f pos) (tErrF D f te) := by
  refine ⟨fun pins s σ H Q I h => ?_⟩
  refine attr_of hb (thn (he.run pins s σ H _ I h) fun u s1 ⟨x, H1, I1, rx, a, d, fs, v, ex, ea, ed, l, q⟩ => ?_)
  subst ex
  obtain rfl : u = Value.ref a := rx
  obtain ⟨t1, ho⟩ := exo_at I1.hok ea
  obtain ⟨mA, hns, hr⟩ := exd_at I1.hok ed
  obtain ⟨od, hod, hl⟩ := lookIn_ns hns
  obtain ⟨u, hu, ru⟩ := RelO.some_of (v := v) (o := mA f) (by rw [← l]; exact hr f)
  have J : PySem.W.InstAt s1.heap a _ D (some od) := ⟨ho, rfl, rfl, hod⟩
  exact HandSPX.exc_get I1.kIn J T.ga T.gg T.exC (PySem.W.findObj_own T.hdC hno rfl (by rw [hl, hu])) (handed_of ru) ⟨v, H1, I1.tok _, ru, q⟩
/-- C(), an error without own __init__ -/
theorem pe_exc0 {bmB : List Value} {B newId initId : String} (F : ExcBaseFacts B newId initId bmB) (q : PySem.W.excIn X.K C bmB newId = true) (gC : X.mg x = some (.ref C)) (kC : PySem.W.keepIn X.K (.ref C) = true) (hg : Gl X x := by rfl)
    (hdb : (x == ("__debug__" : Str)) = false := by decide) : PE X (.Call (.Name x p) [] [] pos) (fun σ H Q => ∀ a, H a = none → Q (.ref a) (upd H a (ExO (.ref C) a))) := by
  refine ⟨fun pins s σ H Q I h => ?_⟩
  refine wpAny_Call_Name_kw (ld_glob I hg gC ?_ hdb)
  refine PySem.W.callWith_K0 I.kIn kC ?_
  show wpAny _ _ (call (.ref C) []) _ _ _
  obtain ⟨bm, N, nm, qn, bs, hdct, sn, sub, ab, col, dd, k0, k1, k2, k3, k5, mN, hC, hN, hni, T⟩ := exc_obj I.kIn q
  refine wpAny_call_exc_subT F T hC hN hni (fun h' a hm => ?_) (by show 0 ≤ sizeLine; exact Nat.zero_le _)
  have hn : H a = none := I.hok.gone hm.new
  obtain ⟨t, ht, _, _⟩ := hm.there
  exact ⟨.ref a, upd H a (ExO (.ref C) a), I.laidN hm.keeps hm.new hn (exO_ok ht ⟨rfl, rfl⟩ rfl rfl rfl (show 4 < 6 by decide)), rfl, h a hn⟩
end
end L2
namespace L2
open PySem PySem.Spec PyProof.Rows LamX
theorem clo_nil {cells : List (Str × Addr)} : ∀ {names : List (Str × NameKind)} {acc : List (Str × Addr)}, (∀ y ∈ names, y.2 ≠ .free) → cloFrom cells names acc = acc
  | [], _, _ => rfl
  | (n, k) :: r, acc, h => by
    have hk : (k == NameKind.free) = false := by
      have z := h (n, k) (List.mem_cons_self ..)
      cases k <;> first | rfl | exact absurd rfl z
    unfold cloFrom
    rw [if_neg (by rw [hk]; exact Bool.false_ne_true)]
    exact clo_nil fun y hy => h y (List.mem_cons_of_mem _ hy)
/-- the body of a lambda without captured names, q its name -/
abbrev lamO (q : Str) (params : Arguments) (body : Expr) (scope : Scope) (pm : Value) (c' : Addr) (ctv : Value) : Obj := PySem.W.kla_obj "<lambda>" q params body scope [] pm c' ctv
/-- a lambda stands at f, its code object at c' -/
def LamAt (f c' : Addr) (q : Str) (params : Arguments) (body : Expr) (scope : Scope) : HO := .ext fun h => ∃ pm ctv : Value, h.get? f = some (lamO q params body scope pm c' ctv)
theorem lamAt_ok {P : Program} {w : World} {H : Hp} {h : Heap} {f c' : Addr} {q : Str} {params : Arguments} {body : Expr} {scope : Scope} {pm ctv : Value} (e : h.get? f = some (lamO q params body scope pm c' ctv)) : ObjOk P w H h f (LamAt f c' q params body scope) :=
  ⟨⟨pm, ctv, e⟩, ⟨_, e⟩, fun _ _ ⟨a, b, z⟩ k => ⟨a, b, k _ z⟩⟩
theorem lamAt_get {P : Program} {w : World} {H : Hp} {h : Heap} {f c' : Addr} {q : Str} {params : Arguments} {body : Expr} {scope : Scope} (ok : HOk P w H h) (e : H f = some (LamAt f c' q params body scope)) : ∃ pm ctv : Value, h.get? f = some (lamO q params body scope pm c' ctv) := by
  have z : ObjOk P w H h f (.ext fun h => ∃ pm ctv : Value, h.get? f = some (lamO q params body scope pm c' ctv)) := ok f _ e
  exact z.1
section
variable {X : Cx} {pins : List (Addr × Obj)} {σ : L2.St} {H : Hp} {s : Shared}
/-- a lambda without captured names is made, and tracked -/
theorem lam_laid {T : List (Addr × Str)} {c P : Addr} {params : Arguments} {body : Expr} {scope : Scope} {pos : Pos} {E : Value → Shared → Prop} {Q : Value → Shared → Prop} (I : Inv X pins σ H s) (TB : TabB X.base X.mg c P) (hcode : X.env.code = .ref c)
    (hm : (P, X.env.qual ++ "<lambda>") ∈ T) (hu : ∀ p ∈ T, p.1 = P → p.2 = X.env.qual ++ "<lambda>") (hT : Tabs T H) (hdef : defaultsOf params X.env = ([], [])) (hnf : ∀ y ∈ scope.names, y.2 ≠ .free)
    (h : ∀ (f c' : Addr) (H1 : Hp) (s' : Shared), Inv X pins σ (upd H1 f (LamAt f c' (X.env.qual ++ "<lambda>") params body scope)) s' → ExtN H H1 → Tabs T H1 → H1 f = none → H1 c' = some (CodeO c' (X.env.qual ++ "<lambda>")) → Q (.ref f) s') :
    wpAny (model X.prog X.w) X.A (eval (.Lambda params body scope pos) X.env) Q E s := by
  obtain ⟨ps, hP, ht, ha⟩ := hT _ hm
  have hclo : cloFrom X.env.cells scope.names [] = [] := clo_nil hnf
  have okc : closureFor scope X.env = pure ([] : List (Str × Addr)) := by
    have z := closure_ok (env := X.env) (scope := scope) fun y hy e => absurd e (hnf y hy)
    rw [hclo] at z
    exact z
  refine PySem.W.kla_eval hdef ?_
  have bP : s.heap.BuiltinsAt X.mg P := TB.bm.keeps I.bk
  have hP' : s.heap.get? P = some { cls := .none, data := .fields ps } := I.hok P _ hP
  have lay : ∀ {H1 : Hp} {h' : Heap} {c' : Addr} {pm ctv : Value} {tk : Nat}, Inv X pins σ H1 { s with heap := h', toks := tk } →
      Inv X pins σ (upd H1 h'.objs.size (LamAt h'.objs.size c' (X.env.qual ++ "<lambda>") params body scope)) { s with heap := h'.push (lamO (X.env.qual ++ "<lambda>") params body scope pm c' ctv), toks := tk } := fun {H1 h' c' pm ctv tk} J =>
    J.laid (t' := tk) (a := h'.objs.size) (h' := h'.push (lamO (X.env.qual ++ "<lambda>") params body scope pm c' ctv)) (fun b o e => Heap.get?_push_of_some _ e) (Nat.le_refl _) (lamAt_ok (Heap.get?_push_size _ rfl))
  cases hc : codeAmong pos ps.toList with
  | none =>
    refine PySem.W.kla_makeFunction (mg := X.mg) (c := c) (P := P) (ps := ps) okc I.ok.glob (I.mod.glob.keeps I.bk) hcode (TB.code.keeps I.bk) hP' ht hc TB.gP bP fun c' ctv h' tk hx hge hlt hrec htb => ?_
    obtain ⟨c2, oc, vs, t, e2, hoc, hd, hv⟩ := hrec
    cases e2
    have nC : H c' = none := I.hok.fresh hge
    have I1 := inv_table (q := X.env.qual ++ "<lambda>") (t' := tk) (more := #[rawInt pos.line, rawInt pos.col, .ref c']) (h' := h') I hP hx htb hge ⟨oc, vs, t, hoc, hd, hv⟩
    have hE : ExtN H (upd (upd H P (.tbl (ps ++ #[rawInt pos.line, rawInt pos.col, .ref c']))) c' (CodeO c' (X.env.qual ++ "<lambda>"))) := fun b o e n => by
      rw [upd_ne (ne_of_none e nC), upd_ne (fun z => n ps (Option.some.inj (e.symm.trans (by rw [z]; exact hP))))]
      exact e
    have eL : (ps ++ #[rawInt pos.line, rawInt pos.col, .ref c']).toList = ps.toList ++ [rawInt pos.line, rawInt pos.col, .ref c'] := by simp
    refine h h'.objs.size c' _ _ (lay I1) hE (fun p hp => ?_) ?_ upd_same
    · by_cases hb : p.1 = P
      · rw [hu p hp hb, hb]
        refine ⟨_, by rw [upd_ne (ne_of_none hP nC), upd_same], by rw [eL]; exact PySem.TriplesOk_snoc _ _ _ _ ht, fun p' cv hcv => ?_⟩
        rw [eL] at hcv
        rcases among_app _ ht hcv with z | z
        · obtain ⟨c0, e1, e2⟩ := ha p' cv z
          exact ⟨c0, e1, hE _ _ e2 codeO_ne⟩
        · exact ⟨c', z, upd_same⟩
      · obtain ⟨ps', a1, a2, a3⟩ := hT p hp
        refine ⟨ps', by rw [upd_ne (ne_of_none a1 nC), upd_ne hb]; exact a1, a2, fun p' cv hcv => ?_⟩
        obtain ⟨c0, e1, e2⟩ := a3 p' cv hcv
        exact ⟨c0, e1, hE _ _ e2 codeO_ne⟩
    · have z := I1.hok.fresh (Nat.le_refl h'.objs.size)
      exact z
  | some cv =>
    obtain ⟨c', e, hco⟩ := ha pos cv hc
    subst e
    refine PySem.W.kla_makeFunctionHit (mg := X.mg) (c := c) (P := P) (ps := ps) okc I.ok.glob (I.mod.glob.keeps I.bk) hcode (TB.code.keeps I.bk) hP' ht hc bP fun ctv h' tk hx hsz => ?_
    have I1 : Inv X pins σ H { s with heap := h', toks := tk } := I.kept fun b o e => hx b o e
    exact h h'.objs.size c' H _ (lay I1) (ExtN.refl H) hT (I1.hok.fresh (Nat.le_refl h'.objs.size)) hco
/-- lambda ..: .. as a value -/
theorem pe_lamV {T : List (Addr × Str)} {c P : Addr} {params : Arguments} {body : Expr} {scope : Scope} {pos : Pos} (TB : TabB X.base X.mg c P) (hcode : X.env.code = .ref c)
    (hm : (P, X.env.qual ++ "<lambda>") ∈ T) (hu : ∀ p ∈ T, p.1 = P → p.2 = X.env.qual ++ "<lambda>") (hnf : ∀ y ∈ scope.names, y.2 ≠ .free) (hdef : defaultsOf params X.env = ([], []) := by rfl) :
    PE X (.Lambda params body scope pos) (fun σ H Q => Tabs T H ∧ ∀ f c' H1, ExtN H H1 → Tabs T H1 → H1 f = none → H1 c' = some (CodeO c' (X.env.qual ++ "<lambda>")) → Q (.ref f) (upd H1 f (LamAt f c' (X.env.qual ++ "<lambda>") params body scope))) :=
  ⟨fun pins s σ H Q I h => lam_laid I TB hcode hm hu h.1 hdef hnf fun f c' H1 s' J e1 e2 e3 e4 => ⟨.ref f, _, J, rfl, h.2 f c' H1 e1 e2 e3 e4⟩⟩
end
/-- x(e), x a local name that holds such a lambda of one parameter; tb: what its body reads -/
def tLamC (i : Nat) (y : Str) (q : Str) (params : Arguments) (body : Expr) (scope : Scope) (tb : TE) (ta : TA) : TE := fun σ H Q => ∃ f c', σ[i]? = some (some (.ref f)) ∧ H f = some (LamAt f c' q params body scope) ∧ ta σ H fun vs H1 => ∃ v : V, vs = [v] ∧ H1 f = some (LamAt f c' q params body scope) ∧ H1 c' = some (CodeO c' q) ∧ tb [some v] H1 Q
section
variable {X : Cx} {i k : Nat} {x y q : Str} {params : Arguments} {body : Expr} {scope : Scope} {tb : TE} {ta : TA} {e : Expr} {p pos : Pos}
theorem pe_lamC (S : FnScope [y] [y] scope) (hr : Room (k + 1) X.A) (hN : X.N[i]? = some x) (hv : Vis X.env.scope x)
    (hbind : ∀ (pm : Value) (c' : Addr) (ctv u : Value), bindArgs (PySem.W.kla_fn "<lambda>" q params body scope [] pm (.ref c') ctv) ⟨[u], []⟩ = pure [(y, u)])
    (hbody : ∀ (A : Around) (outer : List Env) (s : Shared) (H : Hp) (f : Addr) (cd : Value), Room k (A.deeper (envOfC q scope s.heap.objs.size f cd)) → PE (cxOf CX0 X.prog X.w X.K X.mg X.base [y] q scope f cd A outer s H E0) body tb)
    (ha : PA X [e] ta) (hd : (x == ("__debug__" : Str)) = false := by decide) (hcd : (x == ("__classdict__" : Str)) = false := by decide)
    (he : starEach [e] X.env = (false, eval e X.env) :: starEach [] X.env := by rfl) (hpl : (backTo pos (starEach [] X.env)).any (·.1) = false := by rfl) :
    PE X (.Call (.Name x p) [e] [] pos) (tLamC i y q params body scope tb ta) := by
  refine ⟨fun pins s σ H Q I h => ?_⟩
  obtain ⟨f, c', hs, hf0, ht⟩ := h
  refine wpAny_Call_Name_kw (thn ((pe_var (pos := p) hN hv hd hcd).run pins s σ H (fun v H1 => v = .ref f ∧ H1 = H) I ⟨.ref f, hs, rfl, rfl⟩) fun u s1 ⟨v, H1, I1, r1, q1⟩ => ?_)
  obtain ⟨ev, eH⟩ := q1
  subst ev
  subst eH
  obtain rfl : u = Value.ref f := r1
  obtain ⟨pm0, ctv0, o0⟩ := lamAt_get I1.hok hf0
  refine PySem.W.callWith_F ⟨_, _, _, _, o0⟩ (thn (ha.run pos pins s1 σ H1 _ I1 ht) fun us s2 ⟨vs, H2, I2, r2, v, ew, hf, hc, q2⟩ => ?_) he hpl
  subst ew
  obtain ⟨pm, ctv, o⟩ := lamAt_get I2.hok hf
  refine ⟨⟨_, _, _, _, o⟩, ?_⟩
  cases r2 with
  | @cons _ u0 _ ur r0 rn =>
    cases rn
    obtain ⟨⟨oc, vs, t, hoc, hdc, hvc⟩, _, _⟩ := I2.hok c' _ hc
    have hkind : ∀ z ∈ [y].zip [u0], scope.names.lookup z.1 = some .local ∨ (scope.names.lookup z.1 = some .cell ∧ ((cellsFrom (s2.heap.objs.size + 1) scope.names []).lookup z.1).isSome = true) := fun ⟨n, w'⟩ hz => by
      rcases S.par n (List.of_mem_zip hz).1 with z | z
      · exact .inl z
      · exact .inr ⟨z, PySem.W.cellsFrom_some _ _ _ (.inl z)⟩
    have rc : codeAny (model X.prog X.w) X.A (.call (.ref f) ⟨[u0], []⟩) (CR CX0 X.stack X.prog X.w H2 s2 Q E0) s2 := by
      refine PySem.W.kla_callFunE hr.depth o rfl S.co S.gen rfl ⟨c', oc, vs, t, rfl, hoc, hdc, hvc⟩ ?_
      rw [hbind]
      refine wpAny_pure (wpAny_newFunctionEnv_cells S.kind hkind fun env he s3 x => ?_)
      subst he
      refine ⟨I2.nolimit.keeps x.toInCall.keep, ?_⟩
      have J : Inv (cxOf CX0 X.prog X.w X.K X.mg X.base [y] q scope f (.ref c') X.A X.stack s2 H2 E0) [] (start [y] [v]) H2 s3 := inv_start S hr.hd I2.env0 rfl (.cons r0 .nil) x
      refine PySem.W.kla_codeExpr (wpAny_mono ((hbody X.A X.stack s2 H2 f (.ref c') (hr.deeper _)).run [] s3 (start [y] [v]) H2 Q J q2) (fun z s' hq => ?_) fun e s' hq => hq)
      obtain ⟨v', H', J', rv, q⟩ := hq
      exact ⟨v', H', J'.os, J'.bare, J'.base, J'.hok, rv, q⟩
    refine wpAny_call (codeAny_mono rc fun r s' back => ?_)
    cases r with
    | error er => exact pass0 pins σ _ _ er s' I2 back
    | ok fl =>
      cases fl with
      | ret z => exact I2.after back
      | next => exact False.elim back
      | brk => exact False.elim back
      | cont => exact False.elim back
end
end L2
namespace L2
open PySem PySem.Spec PyProof.Rows
section
variable {X : Cx} {C fI : Addr} {f x : Str} {fd : FuncData} {k : Nat} {p pos : Pos} {e : Expr} {ta : TA}
/-- C(e), raised: an own error with the one field f -/
def tMkE (C : Addr) (f : Str) (ta : TA) : St → Hp → XK → Prop := fun σ H Q => ta σ H fun vs H1 => ∃ v, vs = [v] ∧ ∀ d, H1 d = none → Q (.ref C) (some d) (upd H1 d (.xd [(f, v)]))
theorem del_made {H : Hp} {a d : Addr} {o u z w : HO} (ha : H a = none) (ne : d ≠ a) : upd (del (upd (upd (upd H a o) d u) a z) a) d w = upd H d w := by
  funext b
  by_cases hd : b = d
  · rw [hd, upd_same, upd_same]
  · rw [upd_ne hd, upd_ne hd]
    by_cases hb : b = a
    · rw [hb, del_same, ha]
    · rw [del_ne hb, upd_ne hb, upd_ne hd, upd_ne hb]
theorem pmk_err (Z : ErrC X.K C fI f fd) (G : FnOk X.prog X.w X.K X.mg X.base CX0 k fI fd ["self", f] (spErrI C f)) (hr : Room (k + 1) X.A) (hm : X.mg x = some (.ref C)) (ha : PA X [e] ta) (hg : Gl X x := by rfl)
    (hdb : (x == ("__debug__" : Str)) = false := by decide) (he : starEach [e] X.env = (false, eval e X.env) :: starEach [] X.env := by rfl) (hpl : (backTo pos (starEach [] X.env)).any (·.1) = false := by rfl) :
    PMk X (.Call (.Name x p) [e] [] pos) (tMkE C f ta) := by
  intro pins s σ H Q I h
  refine wpAny_Call_Name_kw (ld_glob I hg hm ?_ hdb)
  refine PySem.W.callWith_K (h₀ := X.base) I.ok.mod.kin Z.t.kC (thn (ha.run pos pins s σ H _ I h) fun us s1 ⟨vs, H1, I1, r1, v, ev, q1⟩ => ⟨I1.kIn, ?_⟩) he hpl
  subst ev
  cases r1 with
  | @cons _ u _ ur r0 rn =>
    cases rn
    obtain ⟨nm, q, N, bs, bm, sn, sub, ab, col, dd, k0, k1, k2, k3, k5, hC, hbm⟩ := Z.t.cls
    obtain ⟨hp, g, dr, tk, os⟩ := s1
    have up : hp.objs.size ≤ hp.objs.size + 1 := Nat.le_succ _
    have free : H1 (hp.objs.size + 1) = none := I1.hok.fresh up
    have old : ∀ b o, hp.get? b = some o → ((hp.push (PySem.W.kdv_tup [u])).push (PySem.HandSPX.excO C hp.objs.size)).get? b = some o := fun b o z =>
      Heap.get?_push_of_some _ (Heap.get?_push_of_some _ z)
    have new : ((hp.push (PySem.W.kdv_tup [u])).push (PySem.HandSPX.excO C hp.objs.size)).get? (hp.objs.size + 1) = some (PySem.HandSPX.excO C hp.objs.size) := by
      heap_get
    have J : Inv X pins σ (upd H1 (hp.objs.size + 1) (exo (hp.objs.size + 1) C none)) ⟨(hp.push (PySem.W.kdv_tup [u])).push (PySem.HandSPX.excO C hp.objs.size), g, dr, tk, os⟩ :=
      I1.laid (t' := tk) (a := hp.objs.size + 1) (o := exo (hp.objs.size + 1) C none) (h' := (hp.push (PySem.W.kdv_tup [u])).push (PySem.HandSPX.excO C hp.objs.size)) old up (exo_ok new)
    have both : Vals [V.ref (hp.objs.size + 1), v] [Value.ref (hp.objs.size + 1), u] := .cons rfl (.cons r0 .nil)
    have asked : spErrI C f [V.ref (hp.objs.size + 1), v] (upd H1 (hp.objs.size + 1) (exo (hp.objs.size + 1) C none))
        (fun z H2 => z = .non ∧ ∃ d, d ≠ hp.objs.size + 1 ∧ H1 d = none ∧ H2 = upd (upd (upd H1 (hp.objs.size + 1) (exo (hp.objs.size + 1) C none)) d (exd d [(f, v)])) (hp.objs.size + 1) (exo (hp.objs.size + 1) C (some d))) (fun _ _ _ => False) :=
      ⟨_, v, rfl, upd_same, fun d hd ne => ⟨rfl, d, ne, by rw [upd_ne ne] at hd; exact hd, rfl⟩⟩
    refine wpAny_call (PySem.ErrV.call_err PySem.F.excBase_ValueError (fun Y => PySem.HandSPX.refsVE_contains Y bm hbm) (I1.kIn _ _ hC) (PySem.W.looks_findIn I1.kIn Z.iC) (fun self => PySem.W.bind_fn I1.kIn self Z.tI) (one_few _)
      (codeAny_mono (G.run _ X.stack _ _ ⟨[Value.ref (hp.objs.size + 1), u], []⟩ [Value.ref (hp.objs.size + 1), u] _ _ (fun _ _ _ => False) (hr.make C [u] []) (J.env0.make C [u] []) (Z.bp _ _ _) both asked) fun r s' back => ?_))
    cases r with
    | error er => exact pass0 pins σ _ _ er s' J back
    | ok fl =>
      cases fl with
      | ret z =>
        obtain ⟨y, H2, os2, bare2, un2, hok2, rz, ey, d, ne, hd, eH⟩ := back
        subst ey
        subst eH
        obtain ⟨h2, g2, d2, t2, os'⟩ := s'
        refine ⟨rz, mk_end (raises_own Z.t.exC Z.t.tyC) I1 up old un2 hok2 os2 bare2 upd_same (by rw [upd_ne ne]; exact upd_same) hd ?_⟩
        rw [del_made free ne]
        exact q1 d hd
      | next => exact False.elim back
      | brk => exact False.elim back
      | cont => exact False.elim back
/-- C(), raised: an own error without own __init__ -/
theorem pmk_exc0 {bmB : List Value} {B newId initId : String} (F : ExcBaseFacts B newId initId bmB) (q : PySem.W.excIn X.K C bmB newId = true) (gC : X.mg x = some (.ref C)) (kC : PySem.W.keepIn X.K (.ref C) = true) (r : Raises X (.ref C)) (hg : Gl X x := by rfl)
    (hdb : (x == ("__debug__" : Str)) = false := by decide) : PMk X (.Call (.Name x p) [] [] pos) (fun _ H Q => Q (.ref C) none H) := by
  intro pins s σ H Q I h
  refine wpAny_Call_Name_kw (ld_glob I hg gC ?_ hdb)
  refine PySem.W.callWith_K0 I.kIn kC ?_
  show wpAny _ _ (call (.ref C) []) _ _ _
  obtain ⟨bm, N, nm, qn, bs, hdct, sn, sub, ab, col, dd, k0, k1, k2, k3, k5, mN, hC, hN, hni, T⟩ := exc_obj I.kIn q
  refine wpAny_call_exc_subT F T hC hN hni (fun h' e hm => ?_) (by show 0 ≤ sizeLine; exact Nat.zero_le _)
  exact mk_of I hm r h (I.hok.gone hm.new)
end
end L2
namespace TW
open PySem PySem.Spec PyProof.Rows L2
def top (i : Nat) : Stmt := PySem.Challenge.pw_turnways_k18_numbers_of_hands.main.body.getD i (.Pass ⟨0, 0, 0, 0⟩)
/-- names that are still the built-ins' -/
structure Blt (mg : Str → Option Value) : Prop where
  len : mg "len" = none
  int : mg "int" = none
  bool : mg "bool" = none
  str : mg "str" = none
  list : mg "list" = none
  tuple : mg "tuple" = none
  dict : mg "dict" = none
  isi : mg "isinstance" = none
  all : mg "all" = none
  zip : mg "zip" = none
  range : mg "range" = none
  sorted : mg "sorted" = none
  enumerate : mg "enumerate" = none
section
variable {K : PySem.W.Frag} {H H' : Hp}
theorem seqT_same {a : Addr} {xs : List V} (e : Same H H') (h : SqT K H a xs) : SqT K H' a xs := by
  rcases h with (h | ⟨o, h⟩) | h
  · exact .inl (.inl (e _ _ h))
  · exact .inl (.inr ⟨o, e _ _ h⟩)
  · exact .inr h
theorem same_new {p : Addr} {o : HO} (hp : H p = none) : Same H (upd H p o) := fun b u e => by
  rw [upd_ne (ne_of_none e hp)]
  exact e
theorem tyx_list {a : Addr} {xs : List V} (h : SqL K H a xs) : TyX K H (.ref a) (.type "list") := by
  rcases h with (h | ⟨o, h⟩) | ⟨o, its, n, h, c, _⟩
  · exact .base (.lst h)
  · exact .base (.frz h)
  · exact .kList h c
theorem tyx_tup {a : Addr} {xs : List V} (h : SqT K H a xs) : TyX K H (.ref a) (.type "tuple") := by
  rcases h with (h | ⟨o, h⟩) | ⟨o, its, n, h, c, _⟩
  · exact .base (.tup h)
  · exact .fTuple h
  · exact .kTuple h c
def kitAB (T : String) : List String → Option Bool
  | [] => some false
  | c :: r => match kitB T c with
    | some true => some true
    | some false => kitAB T r
    | none => none
theorem kitA {T : String} {cs : List String} {b : Bool} (h : kitAB T cs = some b) : PySem.W.kitAny K (.type T) (cs.map Value.type) = some b := by
  induction cs with
  | nil => exact h
  | cons c r ih =>
    have e : PySem.W.kitOne K (.type T) (.type c) = kitB T c := rfl
    show (match PySem.W.kitOne K (.type T) (.type c) with | some true => some true | some false => PySem.W.kitAny K (.type T) (r.map Value.type) | none => none) = some b
    rw [e]
    unfold kitAB at h
    cases q : kitB T c with
    | none =>
      rw [q] at h
      cases h
    | some z =>
      rw [q] at h
      cases z with
      | true => exact h
      | false => exact ih h
theorem iteD {c A B : Prop} [Decidable c] (hc : c) (h : A) : if decide c = true then A else B := by
  rw [decide_eq_true hc]
  exact iteT h
theorem two_sz : 2 ≤ sizeLine := by
  rw [sizeLine_eq]
  decide
/-- whether x is a value, nested at most n deep -/
inductive Vn (K : PySem.W.Frag) (H : Hp) : Nat → V → Bool → Prop where
  | non (n : Nat) : Vn K H n .non true
  | bl (n : Nat) (b : Bool) : Vn K H n (.bl b) true
  | int (n : Nat) (i : Int) : Vn K H n (.int i) true
  | str (n : Nat) (x : Str) : Vn K H n (.str x) true
  | tup {n : Nat} {a : Addr} {xs : List V} {bs : List Bool} (h : SqT K H a xs) (hl : xs.length = bs.length) (few : xs.length ≤ 1000) (each : ∀ (i : Nat) (x : V) (b : Bool), xs[i]? = some x → bs[i]? = some b → Vn K H n x b) : Vn K H (n + 1) (.ref a) (bs.all id)
  | other (n : Nat) {a : Addr} {T : String} (ty : ∀ H', Same H H' → TyX K H' (.ref a) (.type T)) (k1 : kitB T "tuple" = some false) (k2 : kitAB T ["int", "str"] = some false) : Vn K H n (.ref a) false
theorem Vn.same {n : Nat} {x : V} {b : Bool} (e : Same H H') (h : Vn K H n x b) : Vn K H' n x b := by
  induction h with
  | non n => exact .non n
  | bl n b => exact .bl n b
  | int n i => exact .int n i
  | str n x => exact .str n x
  | tup h hl few _ ih => exact .tup (seqT_same e h) hl few fun i x b h1 h2 => ih i x b h1 h2
  | other n ty k1 k2 => exact .other n (fun H'' z => ty H'' (e.trans z)) k1 k2
end
def spIsV (K : PySem.W.Frag) (n : Nat) : Sp := fun vs H Q _ => ∃ (x : V) (b : Bool), vs = [x] ∧ Vn K H n x b ∧ ∀ H', Same H H' → Q (.bl b) H'
abbrev sIsV : Stmt := top 17
section
variable {P : Program} {w : World} {K : PySem.W.Frag} {mg : Str → Option Value} {base : Heap}
theorem fn_never {CX : CXT} {f : Addr} {fd : FuncData} {ps : List Str} {k : Nat} : FnOk P w K mg base CX k f fd ps (fun _ _ _ _ => False) := ⟨fun _ _ _ _ h => h.elim, fun _ _ _ _ _ _ _ _ _ _ _ _ _ h => h.elim⟩
theorem scIsV : FnScope ["given", "inner"] ["given"] (defScope sIsV) := ⟨rfl, rfl, rfl, by decide +kernel, rfl, by decide +kernel, by decide +kernel⟩
theorem isV_body {f : Addr} {fd : FuncData} {n k : Nat} {spR : Sp} (F : Fun K "is_value" "is_value" sIsV f fd) (B : Blt mg) (hm : mg "is_value" = some (.ref f)) (bS : Binds K fd ["given"] [])
    (R : FnOk P w K mg base CX0 k f fd ["given"] spR) (hR : ∀ m, n = m + 1 → spR = spIsV K m) : FnOk P w K mg base CX0 (k + 1) f fd ["given"] (spIsV K n) := by
  refine F.ok scIsV (fun vs H Q E h => ?_) (fun cdv A outer s H vs Q E hr h => ?_)
  · obtain ⟨x, b, rfl, _⟩ := h
    rfl
  · obtain ⟨x, b, rfl, hV, kQ⟩ := h
    refine ⟨_, pss_cons (ps_if (pt_val (pe_callB call_isi (by rfl) B.isi (by decide +kernel) (pa_cons (pv 0) (pa_cons (pe_bltn (v := .ty "tuple") (by rfl) B.tuple (by decide +kernel) rfl) pa_nil))))
        (pss_one (ps_ret (pe_callB (cr_all rfl) (by rfl) B.all (by decide +kernel) (pa_cons
          (pe_lc (own := [("inner", 1)]) (g := gName 1) rfl scIsV.nd (pi_tup (pv 0)) (blkOk_by (N := ["given", "inner"]) (sc := defScope sIsV) (by decide +kernel))
            (fun _ _ _ _ _ => pg_name (i := 1) scIsV.nd rfl (Or.inl rfl)) (fun _ _ _ _ _ => pts_nil) (fun _ _ _ _ _ => pe_call R hr rfl hm F.kp bS .nil pass0 (pa_cons (pv 1) pa_nil))) pa_nil)))) pss_nil)
      (pss_one (ps_ret (pe_or (pe_cmpR op_isN (pv 0) pe_non (nomark _)) (pe_one (pe_callB call_isiT (by rfl) B.isi (by decide +kernel) (pa_cons (pv 0) (pa_cons (pe_tup (pa_cons (pe_bltn (v := .ty "int") (by rfl) B.int (by decide +kernel) rfl) (pa_cons (pe_bltn (v := .ty "str") (by rfl) B.str (by decide +kernel) rfl) pa_nil))) pa_nil))))))), ?_⟩
    cases hV with
    | non =>
      refine ⟨_, rfl, _, _, _, _, _, rfl, .ty _, .base .non, kit_ty (r := false) (by decide +kernel), _, rfl, ?_⟩
      refine iteF ?_
      refine ⟨_, rfl, rfl, _, rfl, ?_⟩
      exact iteD rfl (kQ _ (Same.refl _))
    | bl _ z =>
      refine ⟨_, rfl, _, _, _, _, _, rfl, .ty _, .base (.bl z), kit_ty (r := false) (by decide +kernel), _, rfl, ?_⟩
      refine iteF ?_
      refine ⟨_, rfl, rfl, _, rfl, ?_⟩
      rw [decide_eq_false (by intro z; cases z)]
      refine iteF ?_
      refine ⟨_, rfl, two_sz, fun p hp => ?_⟩
      exact ⟨_, p, _, _, [.type "int", .type "str"], _, rfl, upd_same, .cons (.ty _) (.cons (.ty _) .nil), .base (.bl z), kitA (cs := ["int", "str"]) (b := true) (by decide +kernel), kQ _ (same_new hp)⟩
    | int _ i =>
      refine ⟨_, rfl, _, _, _, _, _, rfl, .ty _, .base (.int i), kit_ty (r := false) (by decide +kernel), _, rfl, ?_⟩
      refine iteF ?_
      refine ⟨_, rfl, rfl, _, rfl, ?_⟩
      rw [decide_eq_false (by intro z; cases z)]
      refine iteF ?_
      refine ⟨_, rfl, two_sz, fun p hp => ?_⟩
      exact ⟨_, p, _, _, [.type "int", .type "str"], _, rfl, upd_same, .cons (.ty _) (.cons (.ty _) .nil), .base (.int i), kitA (cs := ["int", "str"]) (b := true) (by decide +kernel), kQ _ (same_new hp)⟩
    | str _ z =>
      refine ⟨_, rfl, _, _, _, _, _, rfl, .ty _, .base (.str z), kit_ty (r := false) (by decide +kernel), _, rfl, ?_⟩
      refine iteF ?_
      refine ⟨_, rfl, rfl, _, rfl, ?_⟩
      rw [decide_eq_false (by intro z; cases z)]
      refine iteF ?_
      refine ⟨_, rfl, two_sz, fun p hp => ?_⟩
      exact ⟨_, p, _, _, [.type "int", .type "str"], _, rfl, upd_same, .cons (.ty _) (.cons (.ty _) .nil), .base (.str z), kitA (cs := ["int", "str"]) (b := true) (by decide +kernel), kQ _ (same_new hp)⟩
    | other _ ty k1 k2 =>
      refine ⟨_, rfl, _, _, _, _, _, rfl, .ty _, ty _ (Same.refl _), kit_ty k1, _, rfl, ?_⟩
      refine iteF ?_
      refine ⟨_, rfl, rfl, _, rfl, ?_⟩
      rw [decide_eq_false (by intro z; cases z)]
      refine iteF ?_
      refine ⟨_, rfl, two_sz, fun p hp => ?_⟩
      exact ⟨_, p, _, _, [.type "int", .type "str"], _, rfl, upd_same, .cons (.ty _) (.cons (.ty _) .nil), ty _ (same_new hp), kitA (cs := ["int", "str"]) k2, kQ _ (same_new hp)⟩
    | @tup m a xs bs h hl few each =>
      have e := hR m rfl
      subst e
      refine ⟨_, rfl, _, _, _, _, _, rfl, .ty _, tyx_tup h, kit_ty (r := true) (by decide +kernel), _, rfl, ?_⟩
      refine iteT ?_
      refine ⟨_, rfl, a, rfl, ⟨_, h⟩, fun D hD => ?_⟩
      refine lc_it walk_tup (fun i H' => Same H H' ∧ H' D = some (.lst ((bs.take i).map V.bl))) ⟨same_new hD, upd_same⟩ (fun i H' _ z => seqT_same z.1 h) ?_ ?_
      · rintro i x H' H'' hi ⟨z, hd⟩ ⟨rfl, hx⟩
        have hib : i < bs.length := hl ▸ hi
        refine ⟨rfl, ?_⟩
        unfold tYes
        dsimp only
        refine iteT ?_
        refine ⟨_, rfl, x, bs[i], rfl, (each i x bs[i] hx (List.getElem?_eq_getElem hib)).same z, fun H4 s4 => ?_⟩
        refine ⟨_, s4 _ _ hd, ?_, fun c o e => ?_, ?_⟩
        · rw [List.length_map, List.length_take, sizeLine_eq]
          omega
        · rw [upd_ne (ne_of_none e hD)]
          exact s4 c o (z c o e)
        · rw [upd_same, List.take_succ, List.map_append, List.getElem?_eq_getElem hib]
          rfl
      · rintro H' ⟨z, hd⟩
        rw [hl, List.take_length] at hd
        exact ⟨D, bs, rfl, SqL.of hd, kQ _ z⟩
theorem ok_isV {f : Addr} {fd : FuncData} (F : Fun K "is_value" "is_value" sIsV f fd) (B : Blt mg) (hm : mg "is_value" = some (.ref f)) (bS : Binds K fd ["given"] []) :
    ∀ n : Nat, FnOk P w K mg base CX0 (n + 1) f fd ["given"] (spIsV K n)
  | 0 => isV_body (k := 0) F B hm bS fn_never fun m e => nomatch e
  | n + 1 => isV_body (k := n + 1) F B hm bS (ok_isV F B hm bS n) fun m e => by
    cases e
    rfl
end
end TW
namespace TWHead
open PySem PySem.Spec PySem.W PySem.Calls PyProof.Rows L2 TW
abbrev R : OpenRow := OpenLaw.row PySem.Challenge.rw_turnways_k18_numbers_of_hands
abbrev qv : Program := view R.prog [73]
def names0 : List PySem.Str := ["_wall", "__name__", "TurnError", "BadWorks", "BadName", "BadValue", "BadSize", "BadLimit", "NoThing", "NotHeld", "NoWork", "CanNot"]
def names1 : List PySem.Str := ["Held", "LONGEST_WORD", "is_whole", "is_word", "is_value", "same", "check_value", "check_thing", "check_going", "check_call", "halt", "ask"]
def names2 : List PySem.Str := ["Hand", "Place", "returned", "come", "Things", "first_things", "things_again", "has_room", "need_not_wait", "do_nothing", "do_look", "do_put"]
def names3 : List PySem.Str := ["do_swap", "do_trade", "do_take", "do_give", "do_reach", "do_lay", "do_fetch", "STEPS", "do_step", "place_of", "can_go", "in_pairs"]
def names4 : List PySem.Str := ["Run", "MOST_WORKS", "TOP_LONGEST", "TOP_MOST", "check_works", "check_names", "check_size", "check_limit", "copied", "Shop", "_law_source", "_law_draw"]
def names5 : List PySem.Str := ["_law_pick", "_law_same", "_law_numbered", "_law_due", "_law_trying", "_law_in_shops"]
def names : List PySem.Str := names0 ++ names1 ++ names2 ++ names3 ++ names4 ++ names5

/-- a def's keyword-only default, where it is an object -/
def kwAt (p : PySem.Str × Option PySem.Str) (x : PySem.Str) (K : Frag) : Addr := match K.lookup (He.fAd K p) with
  | some ⟨_, _, .func fd, _⟩ => (match fd.kwdefaults with
    | .ref D => (match nsIn K D x with
      | some (some (.ref a)) => a
      | _ => 0)
    | _ => 0)
  | _ => 0
/-- an own error's class -/
def oexB (K : Frag) (C : Addr) : Bool := match K.lookup C with
  | some ⟨.type "type", _, .cls cd, sl⟩ => (match cd.mro, sl.toList with
    | .ref C' :: bm, [_, _, _, _, some (.builtin n), _] => C' == C && (n == "ValueError.__new__" && (!cd.hasDel && (cd.hasDict && PySem.HandSPX.refsVE bm)))
    | _, _ => false)
  | _ => false
theorem oexB_ok {K : Frag} {C : Addr} (q : oexB K C = true) : ∃ nm q N bs bm sn sub ab col dd k0 k1 k2 k3 k5, K.lookup C = some (excClassObj nm q C N bs bm true sn sub ab col dd k0 k1 k2 k3 k5 "ValueError.__new__") ∧ PySem.HandSPX.refsVE bm = true := by
  unfold oexB at q
  split at q
  · rename_i dict cdat slots lk
    split at q
    · rename_i self rest a0 a1 a2 a3 newer a5 eMro eSl
      obtain ⟨q1, q⟩ := He.ba q
      obtain ⟨q2, q⟩ := He.ba q
      obtain ⟨q3, q⟩ := He.ba q
      obtain ⟨q4, q5⟩ := He.ba q
      obtain ⟨f1, f2, f3, f4, f5, f6, f7, f8, f9, f10, f11⟩ := cdat
      have i1 := eq_of_beq q1
      have i2 := eq_of_beq q2
      have i3 : f11 = false := by
        cases f11 with
        | false => rfl
        | true => cases q3
      have i4 : f6 = true := q4
      subst i1 i2 i3 i4
      obtain ⟨ls⟩ := slots
      obtain rfl : ls = _ := eSl
      obtain rfl : f3 = _ := eMro
      exact ⟨_, _, _, _, rest, _, _, _, _, dict, a0, a1, a2, a3, a5, lk, q5⟩
    · cases q
  · cases q
/-- an own error of the one field f -/
def errB (K : Frag) (x f : PySem.Str) : Bool := oexB K (He.ga K x) && (decide (findIn K (.ref (He.ga K x)) "__setattr__" = some (some (.builtin "object.__setattr__"))) && (decide (subIn K (.ref (He.ga K x)) (.type "BaseException") = some true) && (decide (typeIn K (.ref (He.ga K x)) = some (.type "type")) && (keepIn K (.ref (He.ga K x)) &&
  (decide (findIn K (.ref (He.ga K x)) "__getattribute__" = some (some (.builtin "BaseException.__getattribute__"))) && (decide (findIn K (.ref (He.ga K x)) "__getattr__" = some none) && (hasDictIn K (He.ga K x) && (decide (findIn K (.ref (He.ga K x)) "__class__" = some (some (.builtin "object.__class__"))) &&
  (decide (specialIn K (.builtin "object.__class__") "__get__" = some (some (.builtin "getset_descriptor.__get__"))) && (decide (takesIn K (.builtin "object.__class__") = some true) && (decide (mroIn K (He.ga K x) (.type "object") = some true) && (decide (findIn K (.ref (He.ga K x)) f = some none) &&
  (decide (findIn K (.ref (He.ga K x)) "__init__" = some (some (.ref (He.fAd K (x, some "__init__"))))) && decide (typeIn K (.ref (He.fAd K (x, some "__init__"))) = some (.type "function")))))))))))))))
theorem errB_ok {K : Frag} {x f : PySem.Str} {fd : FuncData} (h : errB K x f = true) (bp : ∀ (s : Shared) (u v : Value), BindsTo s fd ⟨[u, v], []⟩ [("self", u), (f, v)]) (bk : ∀ (s : Shared) (u v : Value), BindsTo s fd ⟨[u], [(f, v)]⟩ [("self", u), (f, v)]) :
    ErrC K (He.ga K x) (He.fAd K (x, some "__init__")) f fd := by
  obtain ⟨h1, h⟩ := He.ba h
  obtain ⟨h2, h⟩ := He.ba h
  obtain ⟨h3, h⟩ := He.ba h
  obtain ⟨h4, h⟩ := He.ba h
  obtain ⟨h5, h⟩ := He.ba h
  obtain ⟨h6, h⟩ := He.ba h
  obtain ⟨h7, h⟩ := He.ba h
  obtain ⟨h8, h⟩ := He.ba h
  obtain ⟨h9, h⟩ := He.ba h
  obtain ⟨h10, h⟩ := He.ba h
  obtain ⟨h11, h⟩ := He.ba h
  obtain ⟨h12, h⟩ := He.ba h
  obtain ⟨h13, h⟩ := He.ba h
  obtain ⟨h14, h15⟩ := He.ba h
  exact ⟨⟨oexB_ok h1, of_decide_eq_true h2, of_decide_eq_true h3, of_decide_eq_true h4, h5⟩, ⟨of_decide_eq_true h6, of_decide_eq_true h7, of_decide_eq_true h3, h8, of_decide_eq_true h9, of_decide_eq_true h10, of_decide_eq_true h11, of_decide_eq_true h12⟩,
    ⟨of_decide_eq_true h6, of_decide_eq_true h7, of_decide_eq_true h3, h8⟩, of_decide_eq_true h13, of_decide_eq_true h14, of_decide_eq_true h15, bp, bk⟩
/-- Held -/
def heldB (K : Frag) : Bool := excIn K (He.ga K "Held") [.type "Exception", .type "BaseException", .type "object"] "Exception.__new__" && (keepIn K (.ref (He.ga K "Held")) && (decide (subIn K (.ref (He.ga K "Held")) (.type "BaseException") = some true) && decide (typeIn K (.ref (He.ga K "Held")) = some (.type "type"))))
/-- an empty tuple -/
def noneB (K : Frag) (a : Addr) : Bool := match K.lookup a with
  | some ⟨.type c, _, .seq its _, _⟩ => decide (c = "tuple") && (decide (its.size ≤ sizeLine) && He.relAll [] its.toList)
  | _ => false
theorem noneB_ok {K : Frag} {a : Addr} (h : noneB K a = true) (H : Hp) : SqT K H a [] := by
  unfold noneB at h
  split at h
  · rename_i c od its n sl lk
    obtain ⟨h1, h2⟩ := He.ba h
    obtain ⟨h3, h4⟩ := He.ba h2
    exact .inr ⟨_, its, n, lk, congrArg Value.type (of_decide_eq_true h1), rfl, of_decide_eq_true h3, He.relAll_ok h4⟩
  · cases h
def fa0 : List He.Fa := [.free "len", .free "int", .free "bool", .free "str", .free "list", .free "tuple", .free "dict", .free "isinstance", .free "all", .free "zip", .free "range", .free "sorted", .free "enumerate", .free "set", .int "LONGEST_WORD" 8, .int "MOST_WORKS" 4, .int "TOP_LONGEST" 40, .int "TOP_MOST" 2000, .glo "is_whole", .glo "is_word"]
def fa1 : List He.Fa := [.glo "is_value", .glo "same", .glo "check_value", .glo "check_thing", .glo "check_going", .glo "check_call", .glo "halt", .glo "ask", .glo "Hand", .glo "Place", .glo "returned", .glo "come", .glo "Things", .glo "first_things", .glo "things_again", .glo "has_room", .glo "need_not_wait", .glo "do_look", .glo "do_swap", .glo "do_step"]
def fa2 : List He.Fa := [.glo "place_of", .glo "can_go", .glo "in_pairs", .glo "Run", .glo "check_works", .glo "check_names", .glo "check_size", .glo "check_limit", .glo "copied", .glo "Shop", .glo "_law_source", .glo "_law_draw", .glo "_law_pick", .glo "_law_same", .glo "_law_numbered", .glo "_law_due", .glo "_law_trying", .glo "_law_in_shops", .glo "law", .glo "BadWorks"]
def fa3 : List He.Fa := [.glo "BadValue", .glo "BadSize", .glo "BadLimit", .glo "NoThing", .glo "NoWork", .glo "CanNot", .glo "Held", .glo "STEPS", .cls "Hand", .mkr "Hand", .noat "Hand" "me", .noat "Hand" "shop", .noat "Hand" "answers", .noat "Hand" "asked", .noat "Hand" "mine", .noat "Hand" "words", .noat "Hand" "pending", .noat "Hand" "end", .noat "Hand" "halted", .cls "Place"]
def fa4 : List He.Fa := [.mkr "Place", .noat "Place" "answers", .noat "Place" "pending", .noat "Place" "end", .noat "Place" "words", .cls "Things", .mkr "Things", .noat "Things" "cells", .noat "Things" "holders", .noat "Things" "rows", .noat "Things" "sizes", .cls "Run", .mkr "Run", .noat "Run" "shop", .noat "Run" "things", .noat "Run" "places", .noat "Run" "done", .cls "Shop", .mkr "Shop", .noat "Shop" "works"]
def fa5 : List He.Fa := [.noat "Shop" "cells", .noat "Shop" "locks", .noat "Shop" "belts", .noat "Shop" "many", .noat "Shop" "longest", .noat "Shop" "most", .meth "Hand" "look", .meth "Hand" "swap", .meth "Hand" "say", .meth "Run" "can", .meth "Run" "go", .meth "Run" "said", .meth "Run" "ends", .meth "Run" "cell", .meth "Run" "outcome", .meth "Run" "is_over", .meth "Shop" "names", .meth "Shop" "beside", .exm "Held" "Held" true, .exm "NoThing" "NoThing" true]
def fa6 : List He.Fa := [.exm "Held" "NoThing" false]
def fa : List He.Fa := fa0 ++ (fa1 ++ (fa2 ++ (fa3 ++ (fa4 ++ (fa5 ++ (fa6))))))
def fn0 : List He.DefD := [⟨("is_whole", none), "is_whole", "is_whole", defArgs (top 15), defBody (top 15), defScope (top 15), [], []⟩,
  ⟨("is_word", none), "is_word", "is_word", defArgs (top 16), defBody (top 16), defScope (top 16), [], []⟩,
  ⟨("is_value", none), "is_value", "is_value", defArgs (top 17), defBody (top 17), defScope (top 17), [], []⟩,
  ⟨("same", none), "same", "same", defArgs (top 18), defBody (top 18), defScope (top 18), [], []⟩,
  ⟨("check_value", none), "check_value", "check_value", defArgs (top 19), defBody (top 19), defScope (top 19), [], []⟩,
  ⟨("check_thing", none), "check_thing", "check_thing", defArgs (top 20), defBody (top 20), defScope (top 20), [], []⟩,
  ⟨("check_going", none), "check_going", "check_going", defArgs (top 22), defBody (top 22), defScope (top 22), [], []⟩,
  ⟨("check_call", none), "check_call", "check_call", defArgs (top 23), defBody (top 23), defScope (top 23), [], []⟩,
  ⟨("halt", none), "halt", "halt", defArgs (top 24), defBody (top 24), defScope (top 24), [], []⟩,
  ⟨("ask", none), "ask", "ask", defArgs (top 25), defBody (top 25), defScope (top 25), [], []⟩]
def fn1 : List He.DefD := [⟨("Hand", some "__init__"), "__init__", "Hand.__init__", defArgs (inClass (top 26) 0), defBody (inClass (top 26) 0), defScope (inClass (top 26) 0), [], []⟩,
  ⟨("Hand", some "look"), "look", "Hand.look", defArgs (inClass (top 26) 1), defBody (inClass (top 26) 1), defScope (inClass (top 26) 1), [], []⟩,
  ⟨("Hand", some "swap"), "swap", "Hand.swap", defArgs (inClass (top 26) 3), defBody (inClass (top 26) 3), defScope (inClass (top 26) 3), [], []⟩,
  ⟨("Hand", some "say"), "say", "Hand.say", defArgs (inClass (top 26) 12), defBody (inClass (top 26) 12), defScope (inClass (top 26) 12), [], []⟩,
  ⟨("Place", some "__init__"), "__init__", "Place.__init__", defArgs (inClass (top 28) 0), defBody (inClass (top 28) 0), defScope (inClass (top 28) 0), [], []⟩,
  ⟨("returned", none), "returned", "returned", defArgs (top 29), defBody (top 29), defScope (top 29), [], []⟩,
  ⟨("come", none), "come", "come", defArgs (top 30), defBody (top 30), defScope (top 30), [], []⟩,
  ⟨("Things", some "__init__"), "__init__", "Things.__init__", defArgs (inClass (top 32) 0), defBody (inClass (top 32) 0), defScope (inClass (top 32) 0), [], []⟩,
  ⟨("first_things", none), "first_things", "first_things", defArgs (top 33), defBody (top 33), defScope (top 33), [], []⟩,
  ⟨("things_again", none), "things_again", "things_again", defArgs (top 34), defBody (top 34), defScope (top 34), [], []⟩]
def fn2 : List He.DefD := [⟨("has_room", none), "has_room", "has_room", defArgs (top 35), defBody (top 35), defScope (top 35), [], []⟩,
  ⟨("need_not_wait", none), "need_not_wait", "need_not_wait", defArgs (top 36), defBody (top 36), defScope (top 36), [], []⟩,
  ⟨("do_look", none), "do_look", "do_look", defArgs (top 38), defBody (top 38), defScope (top 38), [], []⟩,
  ⟨("do_swap", none), "do_swap", "do_swap", defArgs (top 40), defBody (top 40), defScope (top 40), [], []⟩,
  ⟨("do_step", none), "do_step", "do_step", defArgs (top 48), defBody (top 48), defScope (top 48), [], []⟩,
  ⟨("place_of", none), "place_of", "place_of", defArgs (top 50), defBody (top 50), defScope (top 50), [], []⟩,
  ⟨("can_go", none), "can_go", "can_go", defArgs (top 51), defBody (top 51), defScope (top 51), [], []⟩,
  ⟨("in_pairs", none), "in_pairs", "in_pairs", defArgs (top 52), defBody (top 52), defScope (top 52), [], []⟩,
  ⟨("Run", some "__init__"), "__init__", "Run.__init__", defArgs (inClass (top 53) 0), defBody (inClass (top 53) 0), defScope (inClass (top 53) 0), [], []⟩,
  ⟨("Run", some "can"), "can", "Run.can", defArgs (inClass (top 53) 2), defBody (inClass (top 53) 2), defScope (inClass (top 53) 2), [], []⟩]
def fn3 : List He.DefD := [⟨("Run", some "go"), "go", "Run.go", defArgs (inClass (top 53) 3), defBody (inClass (top 53) 3), defScope (inClass (top 53) 3), [], []⟩,
  ⟨("Run", some "said"), "said", "Run.said", defArgs (inClass (top 53) 10), defBody (inClass (top 53) 10), defScope (inClass (top 53) 10), [], []⟩,
  ⟨("Run", some "ends"), "ends", "Run.ends", defArgs (inClass (top 53) 6), defBody (inClass (top 53) 6), defScope (inClass (top 53) 6), [], []⟩,
  ⟨("Run", some "cell"), "cell", "Run.cell", defArgs (inClass (top 53) 7), defBody (inClass (top 53) 7), defScope (inClass (top 53) 7), [], []⟩,
  ⟨("Run", some "outcome"), "outcome", "Run.outcome", defArgs (inClass (top 53) 11), defBody (inClass (top 53) 11), defScope (inClass (top 53) 11), [], []⟩,
  ⟨("Run", some "is_over"), "is_over", "Run.is_over", defArgs (inClass (top 53) 12), defBody (inClass (top 53) 12), defScope (inClass (top 53) 12), [], []⟩,
  ⟨("check_works", none), "check_works", "check_works", defArgs (top 58), defBody (top 58), defScope (top 58), [], []⟩,
  ⟨("check_names", none), "check_names", "check_names", defArgs (top 59), defBody (top 59), defScope (top 59), [], []⟩,
  ⟨("check_size", none), "check_size", "check_size", defArgs (top 60), defBody (top 60), defScope (top 60), [], []⟩,
  ⟨("check_limit", none), "check_limit", "check_limit", defArgs (top 61), defBody (top 61), defScope (top 61), [], []⟩]
def fn4 : List He.DefD := [⟨("copied", none), "copied", "copied", defArgs (top 62), defBody (top 62), defScope (top 62), [], []⟩,
  ⟨("Shop", some "__init__"), "__init__", "Shop.__init__", defArgs (inClass (top 63) 0), defBody (inClass (top 63) 0), defScope (inClass (top 63) 0), [], [("cells", .non), ("locks", .adr (kwAt ("Shop", some "__init__") "locks")), ("belts", .non), ("longest", .int 24), ("most", .int 400)]⟩,
  ⟨("Shop", some "names"), "names", "Shop.names", defArgs (inClass (top 63) 1), defBody (inClass (top 63) 1), defScope (inClass (top 63) 1), [], []⟩,
  ⟨("Shop", some "beside"), "beside", "Shop.beside", defArgs (inClass (top 63) 2), defBody (inClass (top 63) 2), defScope (inClass (top 63) 2), [], [("longest", .int 24), ("most", .int 400)]⟩,
  ⟨("_law_source", none), "_law_source", "_law_source", defArgs (top 65), defBody (top 65), defScope (top 65), [], []⟩,
  ⟨("_law_draw", none), "_law_draw", "_law_draw", defArgs (top 66), defBody (top 66), defScope (top 66), [], []⟩,
  ⟨("_law_pick", none), "_law_pick", "_law_pick", defArgs (top 67), defBody (top 67), defScope (top 67), [], []⟩,
  ⟨("_law_same", none), "_law_same", "_law_same", defArgs (top 68), defBody (top 68), defScope (top 68), [], []⟩,
  ⟨("_law_numbered", none), "_law_numbered", "_law_numbered", defArgs (top 69), defBody (top 69), defScope (top 69), [], []⟩,
  ⟨("_law_due", none), "_law_due", "_law_due", defArgs (top 70), defBody (top 70), defScope (top 70), [], []⟩]
def fn5 : List He.DefD := [⟨("_law_trying", none), "_law_trying", "_law_trying", defArgs (top 71), defBody (top 71), defScope (top 71), [], []⟩,
  ⟨("_law_in_shops", none), "_law_in_shops", "_law_in_shops", defArgs (top 72), defBody (top 72), defScope (top 72), [], []⟩,
  ⟨("law", none), "law", "law", defArgs (top 73), defBody (top 73), defScope (top 73), [], []⟩,
  ⟨("BadWorks", some "__init__"), "__init__", "BadWorks.__init__", defArgs (inClass (top 3) 0), defBody (inClass (top 3) 0), defScope (inClass (top 3) 0), [], []⟩,
  ⟨("BadValue", some "__init__"), "__init__", "BadValue.__init__", defArgs (inClass (top 5) 0), defBody (inClass (top 5) 0), defScope (inClass (top 5) 0), [], []⟩,
  ⟨("BadSize", some "__init__"), "__init__", "BadSize.__init__", defArgs (inClass (top 6) 0), defBody (inClass (top 6) 0), defScope (inClass (top 6) 0), [], []⟩,
  ⟨("BadLimit", some "__init__"), "__init__", "BadLimit.__init__", defArgs (inClass (top 7) 0), defBody (inClass (top 7) 0), defScope (inClass (top 7) 0), [], []⟩,
  ⟨("NoThing", some "__init__"), "__init__", "NoThing.__init__", defArgs (inClass (top 8) 0), defBody (inClass (top 8) 0), defScope (inClass (top 8) 0), [], []⟩,
  ⟨("NoWork", some "__init__"), "__init__", "NoWork.__init__", defArgs (inClass (top 10) 0), defBody (inClass (top 10) 0), defScope (inClass (top 10) 0), [], []⟩,
  ⟨("CanNot", some "__init__"), "__init__", "CanNot.__init__", defArgs (inClass (top 11) 0), defBody (inClass (top 11) 0), defScope (inClass (top 11) 0), [], []⟩]
def fn : List He.DefD := fn0 ++ (fn1 ++ (fn2 ++ (fn3 ++ (fn4 ++ (fn5)))))
def ts : List He.Tab := [(fun K => He.ga K "STEPS", ["look", "put", "swap", "trade", "until", "take", "give", "reach", "lay", "fetch", "rest"])]
def tf : List He.Defn := [("law", none)]
def ex (K : Frag) : Bool := errB K "BadWorks" "count" && (errB K "BadValue" "value" && (errB K "BadSize" "size" && (errB K "BadLimit" "limit" && (errB K "NoThing" "name" && (errB K "NoWork" "number" && (errB K "CanNot" "number" && (heldB K && (noneB K (kwAt ("Shop", some "__init__") "locks" K) && (He.valsB K (He.ga K "STEPS") [("look", .glo "do_look"), ("swap", .glo "do_swap")] && (decide (He.ga K "do_look" ≠ He.ga K "do_swap")))))))))))
/-- the def's table of nested code stands in the heap, empty, and its code object names it -/
def tabOk (look : Addr → Option Obj) (K : Frag) (p : He.Defn) : Bool := codeHdIn K (He.cT K p).1 (He.cT K p).2 && (look (He.cT K p).2).any He.emptyTab
theorem tabOk_says {h : Heap} {as : List Addr} {p : He.Defn} (e : tabOk h.get? (He.frT h.get? as) p = true) :
    codeHdIn (He.frT h.get? as) (He.cT (He.frT h.get? as) p).1 (He.cT (He.frT h.get? as) p).2 = true ∧ (He.frT h.get? as).lookup (He.cT (He.frT h.get? as) p).2 = none ∧ h.get? (He.cT (He.frT h.get? as) p).2 = some { cls := .none, data := .fields #[] } := by
  have both := Bool.and_eq_true_iff.mp e
  refine ⟨both.1, ?_⟩
  have any := both.2
  revert any
  generalize (He.cT (He.frT h.get? as) p).2 = P
  intro any
  match q : h.get? P, any with
  | some o, any => exact ⟨He.frT_none q any, congrArg some (He.emptyTab_eq any)⟩
  | none, any => cases any
/-- what is told of the heap's objects below N: the facts, the defs, the dicts; one Bool; the tables -/
def obsR (N : Nat) (fa : List He.Fa) (fn : List He.DefD) (ts : List He.Tab) (tf : List He.Defn) (ex : Frag → Bool) (look : Addr → Option Obj) : He.AlT × Bool × Bool := (He.obsT fa fn ts (He.frT look (List.range N)), ex (He.frT look (List.range N)), tf.all (tabOk look (He.frT look (List.range N))))
def hookR (N : Nat) (fa : List He.Fa) (fn : List He.DefD) (ts : List He.Tab) (tf : List He.Defn) (ex : Frag → Bool) : Hook :=
  { α := He.AlT × Bool × Bool, obs := fun s => obsR N fa fn ts tf ex s.heap.get?, val := fun w => (He.valT fn ts w, true, true), says := fun w h => ∃ K : Frag, K.In h ∧ He.SaysX fa fn ts tf ex w h K,
    of := fun w s e => by
      have e1 := congrArg Prod.fst e
      have e2 := congrArg (fun z => z.2.1) e
      have e3 : tf.all (tabOk s.heap.get? (He.frT s.heap.get? (List.range N))) = true := congrArg (fun z => z.2.2) e
      have each := fun p hp => tabOk_says (List.all_eq_true.mp e3 p hp)
      exact ⟨_, He.frT_in, e1, e2, fun p hp => (each p hp).1, fun p hp => (each p hp).2.1, fun p hp => (each p hp).2.2⟩,
    keeps := fun w h1 h2 told later => by
      obtain ⟨K, inK, c⟩ := told
      exact ⟨K, inK.keeps later, c.t, c.more, c.hd, c.out, fun p hp => later _ _ (c.empty p hp)⟩ }
theorem obsR_eq {N : Nat} {fa : List He.Fa} {fn : List He.DefD} {ts : List He.Tab} {tf : List He.Defn} {ex : Frag → Bool} {look : Addr → Option Obj} {s : Shared} (h : ∀ a, look a = s.heap.get? a) : obsR N fa fn ts tf ex look = (hookR N fa fn ts tf ex).obs s := by
  obtain rfl : look = s.heap.get? := funext h
  rfl
abbrev hk : Hook := hookR 900 fa fn ts tf ex
noncomputable def ob (s : SharedT) : He.AlT × Bool × Bool := obsR 900 fa fn ts tf ex (HandSHeadRun.getT s)
theorem ob_eq (s : SharedT) : ob s = hk.obs s.abs := obsR_eq (HandSHeadRun.getT_eq s)
theorem runF (w : World) : HandSHeadRun.RunEq R qv hk ob 40000 names (w.withFollow "special-get-raises" false) := by
  intro os
  kernel_rfl
theorem runT (w : World) : HandSHeadRun.RunEq R qv hk ob 40000 names (w.withFollow "special-get-raises" true) := by
  intro os
  kernel_rfl
theorem run (w : World) : HandSHeadRun.RunEq R qv hk ob 40000 names w := byRow2 "special-get-raises" (P := fun w => HandSHeadRun.RunEq R qv hk ob 40000 names w) runF runT w
end TWHead
namespace TW
open PySem PySem.Spec PyProof.Rows L2
theorem hF_n0_1 : ¬ (("me" : Str) = "shop") := by decide +kernel
theorem hF_n0_2 : ¬ (("me" : Str) = "answers") := by decide +kernel
theorem hF_n0_3 : ¬ (("me" : Str) = "asked") := by decide +kernel
theorem hF_n0_4 : ¬ (("me" : Str) = "mine") := by decide +kernel
theorem hF_n0_5 : ¬ (("me" : Str) = "words") := by decide +kernel
theorem hF_n0_6 : ¬ (("me" : Str) = "pending") := by decide +kernel
theorem hF_n0_7 : ¬ (("me" : Str) = "end") := by decide +kernel
theorem hF_n0_8 : ¬ (("me" : Str) = "halted") := by decide +kernel
theorem hF_n1_0 : ¬ (("shop" : Str) = "me") := by decide +kernel
theorem hF_n1_2 : ¬ (("shop" : Str) = "answers") := by decide +kernel
theorem hF_n1_3 : ¬ (("shop" : Str) = "asked") := by decide +kernel
theorem hF_n1_4 : ¬ (("shop" : Str) = "mine") := by decide +kernel
theorem hF_n1_5 : ¬ (("shop" : Str) = "words") := by decide +kernel
theorem hF_n1_6 : ¬ (("shop" : Str) = "pending") := by decide +kernel
theorem hF_n1_7 : ¬ (("shop" : Str) = "end") := by decide +kernel
theorem hF_n1_8 : ¬ (("shop" : Str) = "halted") := by decide +kernel
theorem hF_n2_0 : ¬ (("answers" : Str) = "me") := by decide +kernel
theorem hF_n2_1 : ¬ (("answers" : Str) = "shop") := by decide +kernel
theorem hF_n2_3 : ¬ (("answers" : Str) = "asked") := by decide +kernel
theorem hF_n2_4 : ¬ (("answers" : Str) = "mine") := by decide +kernel
theorem hF_n2_5 : ¬ (("answers" : Str) = "words") := by decide +kernel
theorem hF_n2_6 : ¬ (("answers" : Str) = "pending") := by decide +kernel
theorem hF_n2_7 : ¬ (("answers" : Str) = "end") := by decide +kernel
theorem hF_n2_8 : ¬ (("answers" : Str) = "halted") := by decide +kernel
theorem hF_n3_0 : ¬ (("asked" : Str) = "me") := by decide +kernel
theorem hF_n3_1 : ¬ (("asked" : Str) = "shop") := by decide +kernel
theorem hF_n3_2 : ¬ (("asked" : Str) = "answers") := by decide +kernel
theorem hF_n3_4 : ¬ (("asked" : Str) = "mine") := by decide +kernel
theorem hF_n3_5 : ¬ (("asked" : Str) = "words") := by decide +kernel
theorem hF_n3_6 : ¬ (("asked" : Str) = "pending") := by decide +kernel
theorem hF_n3_7 : ¬ (("asked" : Str) = "end") := by decide +kernel
theorem hF_n3_8 : ¬ (("asked" : Str) = "halted") := by decide +kernel
theorem hF_n4_0 : ¬ (("mine" : Str) = "me") := by decide +kernel
theorem hF_n4_1 : ¬ (("mine" : Str) = "shop") := by decide +kernel
theorem hF_n4_2 : ¬ (("mine" : Str) = "answers") := by decide +kernel
theorem hF_n4_3 : ¬ (("mine" : Str) = "asked") := by decide +kernel
theorem hF_n4_5 : ¬ (("mine" : Str) = "words") := by decide +kernel
theorem hF_n4_6 : ¬ (("mine" : Str) = "pending") := by decide +kernel
theorem hF_n4_7 : ¬ (("mine" : Str) = "end") := by decide +kernel
theorem hF_n4_8 : ¬ (("mine" : Str) = "halted") := by decide +kernel
theorem hF_n5_0 : ¬ (("words" : Str) = "me") := by decide +kernel
theorem hF_n5_1 : ¬ (("words" : Str) = "shop") := by decide +kernel
theorem hF_n5_2 : ¬ (("words" : Str) = "answers") := by decide +kernel
theorem hF_n5_3 : ¬ (("words" : Str) = "asked") := by decide +kernel
theorem hF_n5_4 : ¬ (("words" : Str) = "mine") := by decide +kernel
theorem hF_n5_6 : ¬ (("words" : Str) = "pending") := by decide +kernel
theorem hF_n5_7 : ¬ (("words" : Str) = "end") := by decide +kernel
theorem hF_n5_8 : ¬ (("words" : Str) = "halted") := by decide +kernel
theorem hF_n6_0 : ¬ (("pending" : Str) = "me") := by decide +kernel
theorem hF_n6_1 : ¬ (("pending" : Str) = "shop") := by decide +kernel
theorem hF_n6_2 : ¬ (("pending" : Str) = "answers") := by decide +kernel
theorem hF_n6_3 : ¬ (("pending" : Str) = "asked") := by decide +kernel
theorem hF_n6_4 : ¬ (("pending" : Str) = "mine") := by decide +kernel
theorem hF_n6_5 : ¬ (("pending" : Str) = "words") := by decide +kernel
theorem hF_n6_7 : ¬ (("pending" : Str) = "end") := by decide +kernel
theorem hF_n6_8 : ¬ (("pending" : Str) = "halted") := by decide +kernel
theorem hF_n7_0 : ¬ (("end" : Str) = "me") := by decide +kernel
theorem hF_n7_1 : ¬ (("end" : Str) = "shop") := by decide +kernel
theorem hF_n7_2 : ¬ (("end" : Str) = "answers") := by decide +kernel
theorem hF_n7_3 : ¬ (("end" : Str) = "asked") := by decide +kernel
theorem hF_n7_4 : ¬ (("end" : Str) = "mine") := by decide +kernel
theorem hF_n7_5 : ¬ (("end" : Str) = "words") := by decide +kernel
theorem hF_n7_6 : ¬ (("end" : Str) = "pending") := by decide +kernel
theorem hF_n7_8 : ¬ (("end" : Str) = "halted") := by decide +kernel
theorem hF_n8_0 : ¬ (("halted" : Str) = "me") := by decide +kernel
theorem hF_n8_1 : ¬ (("halted" : Str) = "shop") := by decide +kernel
theorem hF_n8_2 : ¬ (("halted" : Str) = "answers") := by decide +kernel
theorem hF_n8_3 : ¬ (("halted" : Str) = "asked") := by decide +kernel
theorem hF_n8_4 : ¬ (("halted" : Str) = "mine") := by decide +kernel
theorem hF_n8_5 : ¬ (("halted" : Str) = "words") := by decide +kernel
theorem hF_n8_6 : ¬ (("halted" : Str) = "pending") := by decide +kernel
theorem hF_n8_7 : ¬ (("halted" : Str) = "end") := by decide +kernel
/-- the attributes of a hF, in the order in which __init__ stores them -/
def hF (v0 v1 v2 v3 v4 v5 v6 v7 v8 : V) : List (Str × V) := [("me", v0), ("shop", v1), ("answers", v2), ("asked", v3), ("mine", v4), ("words", v5), ("pending", v6), ("end", v7), ("halted", v8)]
theorem hF_get0 {v0 v1 v2 v3 v4 v5 v6 v7 v8 : V} : (hF v0 v1 v2 v3 v4 v5 v6 v7 v8).lookup ("me" : Str) = some v0 := by
  unfold hF
  rw [lookup_put, if_pos rfl]
theorem hF_put0 {v0 v1 v2 v3 v4 v5 v6 v7 v8 z : V} : putF "me" z (hF v0 v1 v2 v3 v4 v5 v6 v7 v8) = hF z v1 v2 v3 v4 v5 v6 v7 v8 := by
  unfold hF
  simp only [putF, if_true]
theorem hF_get1 {v0 v1 v2 v3 v4 v5 v6 v7 v8 : V} : (hF v0 v1 v2 v3 v4 v5 v6 v7 v8).lookup ("shop" : Str) = some v1 := by
  unfold hF
  rw [lookup_put, if_neg hF_n1_0, lookup_put, if_pos rfl]
theorem hF_put1 {v0 v1 v2 v3 v4 v5 v6 v7 v8 z : V} : putF "shop" z (hF v0 v1 v2 v3 v4 v5 v6 v7 v8) = hF v0 z v2 v3 v4 v5 v6 v7 v8 := by
  unfold hF
  simp only [putF, if_neg hF_n0_1, if_true]
theorem hF_get2 {v0 v1 v2 v3 v4 v5 v6 v7 v8 : V} : (hF v0 v1 v2 v3 v4 v5 v6 v7 v8).lookup ("answers" : Str) = some v2 := by
  unfold hF
  rw [lookup_put, if_neg hF_n2_0, lookup_put, if_neg hF_n2_1, lookup_put, if_pos rfl]
theorem hF_put2 {v0 v1 v2 v3 v4 v5 v6 v7 v8 z : V} : putF "answers" z (hF v0 v1 v2 v3 v4 v5 v6 v7 v8) = hF v0 v1 z v3 v4 v5 v6 v7 v8 := by
  unfold hF
  simp only [putF, if_neg hF_n0_2, if_neg hF_n1_2, if_true]
theorem hF_get3 {v0 v1 v2 v3 v4 v5 v6 v7 v8 : V} : (hF v0 v1 v2 v3 v4 v5 v6 v7 v8).lookup ("asked" : Str) = some v3 := by
  unfold hF
  rw [lookup_put, if_neg hF_n3_0, lookup_put, if_neg hF_n3_1, lookup_put, if_neg hF_n3_2, lookup_put, if_pos rfl]
theorem hF_put3 {v0 v1 v2 v3 v4 v5 v6 v7 v8 z : V} : putF "asked" z (hF v0 v1 v2 v3 v4 v5 v6 v7 v8) = hF v0 v1 v2 z v4 v5 v6 v7 v8 := by
  unfold hF
  simp only [putF, if_neg hF_n0_3, if_neg hF_n1_3, if_neg hF_n2_3, if_true]
theorem hF_get4 {v0 v1 v2 v3 v4 v5 v6 v7 v8 : V} : (hF v0 v1 v2 v3 v4 v5 v6 v7 v8).lookup ("mine" : Str) = some v4 := by
  unfold hF
  rw [lookup_put, if_neg hF_n4_0, lookup_put, if_neg hF_n4_1, lookup_put, if_neg hF_n4_2, lookup_put, if_neg hF_n4_3, lookup_put, if_pos rfl]
theorem hF_put4 {v0 v1 v2 v3 v4 v5 v6 v7 v8 z : V} : putF "mine" z (hF v0 v1 v2 v3 v4 v5 v6 v7 v8) = hF v0 v1 v2 v3 z v5 v6 v7 v8 := by
  unfold hF
  simp only [putF, if_neg hF_n0_4, if_neg hF_n1_4, if_neg hF_n2_4, if_neg hF_n3_4, if_true]
theorem hF_get5 {v0 v1 v2 v3 v4 v5 v6 v7 v8 : V} : (hF v0 v1 v2 v3 v4 v5 v6 v7 v8).lookup ("words" : Str) = some v5 := by
  unfold hF
  rw [lookup_put, if_neg hF_n5_0, lookup_put, if_neg hF_n5_1, lookup_put, if_neg hF_n5_2, lookup_put, if_neg hF_n5_3, lookup_put, if_neg hF_n5_4, lookup_put, if_pos rfl]
theorem hF_put5 {v0 v1 v2 v3 v4 v5 v6 v7 v8 z : V} : putF "words" z (hF v0 v1 v2 v3 v4 v5 v6 v7 v8) = hF v0 v1 v2 v3 v4 z v6 v7 v8 := by
  unfold hF
  simp only [putF, if_neg hF_n0_5, if_neg hF_n1_5, if_neg hF_n2_5, if_neg hF_n3_5, if_neg hF_n4_5, if_true]
theorem hF_get6 {v0 v1 v2 v3 v4 v5 v6 v7 v8 : V} : (hF v0 v1 v2 v3 v4 v5 v6 v7 v8).lookup ("pending" : Str) = some v6 := by
  unfold hF
  rw [lookup_put, if_neg hF_n6_0, lookup_put, if_neg hF_n6_1, lookup_put, if_neg hF_n6_2, lookup_put, if_neg hF_n6_3, lookup_put, if_neg hF_n6_4, lookup_put, if_neg hF_n6_5, lookup_put, if_pos rfl]
theorem hF_put6 {v0 v1 v2 v3 v4 v5 v6 v7 v8 z : V} : putF "pending" z (hF v0 v1 v2 v3 v4 v5 v6 v7 v8) = hF v0 v1 v2 v3 v4 v5 z v7 v8 := by
  unfold hF
  simp only [putF, if_neg hF_n0_6, if_neg hF_n1_6, if_neg hF_n2_6, if_neg hF_n3_6, if_neg hF_n4_6, if_neg hF_n5_6, if_true]
theorem hF_get7 {v0 v1 v2 v3 v4 v5 v6 v7 v8 : V} : (hF v0 v1 v2 v3 v4 v5 v6 v7 v8).lookup ("end" : Str) = some v7 := by
  unfold hF
  rw [lookup_put, if_neg hF_n7_0, lookup_put, if_neg hF_n7_1, lookup_put, if_neg hF_n7_2, lookup_put, if_neg hF_n7_3, lookup_put, if_neg hF_n7_4, lookup_put, if_neg hF_n7_5, lookup_put, if_neg hF_n7_6, lookup_put, if_pos rfl]
theorem hF_put7 {v0 v1 v2 v3 v4 v5 v6 v7 v8 z : V} : putF "end" z (hF v0 v1 v2 v3 v4 v5 v6 v7 v8) = hF v0 v1 v2 v3 v4 v5 v6 z v8 := by
  unfold hF
  simp only [putF, if_neg hF_n0_7, if_neg hF_n1_7, if_neg hF_n2_7, if_neg hF_n3_7, if_neg hF_n4_7, if_neg hF_n5_7, if_neg hF_n6_7, if_true]
theorem hF_get8 {v0 v1 v2 v3 v4 v5 v6 v7 v8 : V} : (hF v0 v1 v2 v3 v4 v5 v6 v7 v8).lookup ("halted" : Str) = some v8 := by
  unfold hF
  rw [lookup_put, if_neg hF_n8_0, lookup_put, if_neg hF_n8_1, lookup_put, if_neg hF_n8_2, lookup_put, if_neg hF_n8_3, lookup_put, if_neg hF_n8_4, lookup_put, if_neg hF_n8_5, lookup_put, if_neg hF_n8_6, lookup_put, if_neg hF_n8_7, lookup_put, if_pos rfl]
theorem hF_put8 {v0 v1 v2 v3 v4 v5 v6 v7 v8 z : V} : putF "halted" z (hF v0 v1 v2 v3 v4 v5 v6 v7 v8) = hF v0 v1 v2 v3 v4 v5 v6 v7 z := by
  unfold hF
  simp only [putF, if_neg hF_n0_8, if_neg hF_n1_8, if_neg hF_n2_8, if_neg hF_n3_8, if_neg hF_n4_8, if_neg hF_n5_8, if_neg hF_n6_8, if_neg hF_n7_8, if_true]
theorem hF_make0 {v0 : V} : putF "me" v0 ([] : List (Str × V)) = ([("me", v0)] : List (Str × V)) := rfl
theorem hF_make1 {v0 v1 : V} : putF "shop" v1 ([("me", v0)] : List (Str × V)) = ([("me", v0), ("shop", v1)] : List (Str × V)) := by
  simp only [putF, if_neg hF_n0_1, if_true]
theorem hF_make2 {v0 v1 v2 : V} : putF "answers" v2 ([("me", v0), ("shop", v1)] : List (Str × V)) = ([("me", v0), ("shop", v1), ("answers", v2)] : List (Str × V)) := by
  simp only [putF, if_neg hF_n0_2, if_neg hF_n1_2, if_true]
theorem hF_make3 {v0 v1 v2 v3 : V} : putF "asked" v3 ([("me", v0), ("shop", v1), ("answers", v2)] : List (Str × V)) = ([("me", v0), ("shop", v1), ("answers", v2), ("asked", v3)] : List (Str × V)) := by
  simp only [putF, if_neg hF_n0_3, if_neg hF_n1_3, if_neg hF_n2_3, if_true]
theorem hF_make4 {v0 v1 v2 v3 v4 : V} : putF "mine" v4 ([("me", v0), ("shop", v1), ("answers", v2), ("asked", v3)] : List (Str × V)) = ([("me", v0), ("shop", v1), ("answers", v2), ("asked", v3), ("mine", v4)] : List (Str × V)) := by
  simp only [putF, if_neg hF_n0_4, if_neg hF_n1_4, if_neg hF_n2_4, if_neg hF_n3_4, if_true]
theorem hF_make5 {v0 v1 v2 v3 v4 v5 : V} : putF "words" v5 ([("me", v0), ("shop", v1), ("answers", v2), ("asked", v3), ("mine", v4)] : List (Str × V)) = ([("me", v0), ("shop", v1), ("answers", v2), ("asked", v3), ("mine", v4), ("words", v5)] : List (Str × V)) := by
  simp only [putF, if_neg hF_n0_5, if_neg hF_n1_5, if_neg hF_n2_5, if_neg hF_n3_5, if_neg hF_n4_5, if_true]
theorem hF_make6 {v0 v1 v2 v3 v4 v5 v6 : V} : putF "pending" v6 ([("me", v0), ("shop", v1), ("answers", v2), ("asked", v3), ("mine", v4), ("words", v5)] : List (Str × V)) = ([("me", v0), ("shop", v1), ("answers", v2), ("asked", v3), ("mine", v4), ("words", v5), ("pending", v6)] : List (Str × V)) := by
  simp only [putF, if_neg hF_n0_6, if_neg hF_n1_6, if_neg hF_n2_6, if_neg hF_n3_6, if_neg hF_n4_6, if_neg hF_n5_6, if_true]
theorem hF_make7 {v0 v1 v2 v3 v4 v5 v6 v7 : V} : putF "end" v7 ([("me", v0), ("shop", v1), ("answers", v2), ("asked", v3), ("mine", v4), ("words", v5), ("pending", v6)] : List (Str × V)) = ([("me", v0), ("shop", v1), ("answers", v2), ("asked", v3), ("mine", v4), ("words", v5), ("pending", v6), ("end", v7)] : List (Str × V)) := by
  simp only [putF, if_neg hF_n0_7, if_neg hF_n1_7, if_neg hF_n2_7, if_neg hF_n3_7, if_neg hF_n4_7, if_neg hF_n5_7, if_neg hF_n6_7, if_true]
theorem hF_make8 {v0 v1 v2 v3 v4 v5 v6 v7 v8 : V} : putF "halted" v8 ([("me", v0), ("shop", v1), ("answers", v2), ("asked", v3), ("mine", v4), ("words", v5), ("pending", v6), ("end", v7)] : List (Str × V)) = ([("me", v0), ("shop", v1), ("answers", v2), ("asked", v3), ("mine", v4), ("words", v5), ("pending", v6), ("end", v7), ("halted", v8)] : List (Str × V)) := by
  simp only [putF, if_neg hF_n0_8, if_neg hF_n1_8, if_neg hF_n2_8, if_neg hF_n3_8, if_neg hF_n4_8, if_neg hF_n5_8, if_neg hF_n6_8, if_neg hF_n7_8, if_true]
theorem hF_no {v0 v1 v2 v3 v4 v5 v6 v7 v8 : V} {m : Str} (h0 : ¬ m = ("me" : Str)) (h1 : ¬ m = ("shop" : Str)) (h2 : ¬ m = ("answers" : Str)) (h3 : ¬ m = ("asked" : Str)) (h4 : ¬ m = ("mine" : Str)) (h5 : ¬ m = ("words" : Str)) (h6 : ¬ m = ("pending" : Str)) (h7 : ¬ m = ("end" : Str)) (h8 : ¬ m = ("halted" : Str)) : (hF v0 v1 v2 v3 v4 v5 v6 v7 v8).lookup m = none := by
  unfold hF
  rw [lookup_put, if_neg h0, lookup_put, if_neg h1, lookup_put, if_neg h2, lookup_put, if_neg h3, lookup_put, if_neg h4, lookup_put, if_neg h5, lookup_put, if_neg h6, lookup_put, if_neg h7, lookup_put, if_neg h8]
  rfl
end TW
namespace TW
open PySem PySem.Spec PyProof.Rows L2
/-- an own error with one field, as the top has written it, and its __init__ -/
structure Err1 (P : Program) (w : World) (K : PySem.W.Frag) (mg : Str → Option Value) (base : Heap) (x f : Str) (C : Addr) : Prop where
  ex : ∃ (fI : Addr) (fd : FuncData), ErrC K C fI f fd ∧ FnOk P w K mg base CX0 1 fI fd ["self", f] (spErrI C f)
  m : mg x = some (.ref C)
/-- Held: an own error without __init__ -/
structure Err0 (K : PySem.W.Frag) (mg : Str → Option Value) (x : Str) (C : Addr) : Prop where
  q : PySem.W.excIn K C [.type "Exception", .type "BaseException", .type "object"] "Exception.__new__" = true
  m : mg x = some (.ref C)
  k : PySem.W.keepIn K (.ref C) = true
  b : PySem.W.subIn K (.ref C) (.type "BaseException") = some true
  t : PySem.W.typeIn K (.ref C) = some (.type "type")
abbrev EX (E : XK) (C : Addr) (f : Str) (v : V) (H : Hp) : Prop := ∀ d, H d = none → E (.ref C) (some d) (upd H d (.xd [(f, v)]))
/-! ### check_value -/
def spCkV (K : PySem.W.Frag) (C : Addr) (n : Nat) : Sp := fun vs H Q E => ∃ (x : V) (b : Bool), vs = [x] ∧ Vn K H n x b ∧ ∀ H', Same H H' → (b = true → Q .non H') ∧ (b = false → EX E C "value" x H')
abbrev sCkV : Stmt := top 19
abbrev sCkT : Stmt := top 20
abbrev sGoing : Stmt := top 22
abbrev sHalt : Stmt := top 24
abbrev sAsk : Stmt := top 25
/-- the names of things: a dict's keys or a tuple's items -/
def Names (K : PySem.W.Frag) (H : Hp) (x : V) (l : List Str) : Prop := (∃ a kvs, x = .ref a ∧ Rd H a (.dK kvs) ∧ kvs.map (·.1) = l.map Sum.inr) ∨ ∃ a, x = .ref a ∧ SqT K H a (l.map V.str)
/-- whether y is one of them -/
def Among (K : PySem.W.Frag) (H : Hp) (l : List Str) (y : V) (b : Bool) : Prop := (∃ s, y = .str s ∧ b = decide (s ∈ l)) ∨ (b = false ∧ ∃ T, (∀ H', Same H H' → TyX K H' y (.type T)) ∧ kitB T "str" = some false)
def spCkT (K : PySem.W.Frag) (C : Addr) : Sp := fun vs H Q E => ∃ (x y : V) (l : List Str) (b : Bool), vs = [x, y] ∧ Names K H x l ∧ Among K H l y b ∧ (b = true → Q .non H) ∧ (b = false → EX E C "name" y H)
/-- raise C(e) -/
def tRaiseE (C : Addr) (f : Str) (W : WX) (ta : TA) : TS := fun _ σ H => tMkE C f ta σ H fun cls d H' => W cls d σ H'
section
variable {X : Cx}
/-- y not in x: a dict's keys, or a tuple's items -/
theorem op_notIn_any (hu : X.A.units + 1 < cLine) : OpR X (compareOp .NotIn) (fun y x H Q => (∃ a o, x = .ref a ∧ DGet H a y o ∧ Q (.bl (!o.isSome)) H) ∨ rIn X.K true y x H Q) := by
  intro pins s σ H y x v u Q I ry rx h
  rcases h with ⟨a, o, rfl, g, q⟩ | h
  · cases (show u = Value.ref a from rx)
    exact d_notIn hu I g ry fun s3 I3 => ⟨.bl (!o.isSome), H, I3, rfl, q⟩
  · exact op_notIn_seq pins s σ H y x v u Q I ry rx h
end
section
variable {P : Program} {w : World} {K : PySem.W.Frag} {mg : Str → Option Value} {base : Heap}
theorem scCkV : FnScope ["given"] ["given"] (defScope sCkV) := ⟨rfl, rfl, rfl, by decide +kernel, rfl, by decide +kernel, by decide +kernel⟩
theorem ok_ckV {f fV C : Addr} {fd fdV : FuncData} {n : Nat} (F : Fun K "check_value" "check_value" sCkV f fd) (G : FnOk P w K mg base CX0 (n + 1) fV fdV ["given"] (spIsV K n)) (mV : mg "is_value" = some (.ref fV)) (kV : PySem.W.keepIn K (.ref fV) = true) (bV : Binds K fdV ["given"] [])
    (Z : Err1 P w K mg base "BadValue" "value" C) : FnOk P w K mg base (L2.CX P w) (n + 3) f fd ["given"] (spCkV K C n) := by
  obtain ⟨fI, fdI, z, g⟩ := Z.ex
  refine F.okX scCkV (fun vs H Q E h => ?_) (fun cdv A outer s H vs Q E hr h => ?_)
  · obtain ⟨x, b, rfl, _⟩ := h
    rfl
  · obtain ⟨x, b, rfl, hV, k⟩ := h
    have hr1 : Room (n + 1) _ := hr.mono (by omega)
    have hr2 : Room 2 _ := hr.mono (by omega)
    refine ⟨_, pss_one (ps_if (pt_not (pt_val (pe_call G hr1 rfl mV kV bV .nil pass0 (pa_cons (pv 0) pa_nil)))) (pss_one (ps_raise rfl (takes_of (E := E) rfl rfl rfl rfl) (pmk_err z g hr2 Z.m (pa_cons (pv 0) pa_nil)))) pss_nil), ?_⟩
    refine ⟨_, rfl, x, b, rfl, hV, fun H' e => ⟨_, rfl, ?_⟩⟩
    cases b with
    | true =>
      refine iteF ?_
      exact (k H' e).1 rfl
    | false =>
      refine iteT ?_
      exact ⟨_, rfl, x, rfl, fun d hd => (k H' e).2 rfl d hd⟩
theorem scCkT : FnScope ["names", "name"] ["names", "name"] (defScope sCkT) := ⟨rfl, rfl, rfl, by decide +kernel, rfl, by decide +kernel, by decide +kernel⟩
theorem valV_keys {kvs : List (Key × V)} {l : List Str} (h : kvs.map (·.1) = l.map Sum.inr) (s : Str) : (valV kvs (Sum.inr s)).isSome = decide (s ∈ l) := by
  induction kvs generalizing l with
  | nil =>
    cases l with
    | nil => simp [valV]
    | cons t r => cases h
  | cons p r ih =>
    cases l with
    | nil => cases h
    | cons t l =>
      rw [List.map_cons, List.map_cons] at h
      obtain ⟨h1, h2⟩ := List.cons.inj h
      have e := ih h2
      unfold valV at e ⊢
      rw [List.find?_cons, h1]
      by_cases c : s = t
      · subst c
        simp
      · have n1 : decide ((Sum.inr t : Key) = Sum.inr s) = false := decide_eq_false fun z => c (Sum.inr.inj z).symm
        rw [n1]
        have n2 : decide (s ∈ t :: l) = decide (s ∈ l) := by
          simp [c]
        rw [n2]
        exact e
theorem inV_strs (s : Str) (l : List Str) : inV (.str s) (l.map V.str) = decide (s ∈ l) := by
  unfold inV
  induction l with
  | nil => simp
  | cons t l ih =>
    rw [List.map_cons, List.any_cons, ih]
    by_cases c : s = t
    · subst c
      simp [eqV]
    · have n1 : eqV (.str t) (.str s) = false := by
        show (t == s) = false
        exact beq_false_of_ne fun z => c z.symm
      rw [n1]
      simp [c]
theorem flat_strs (l : List Str) : (l.map V.str).all flatV = true := by
  rw [List.all_map]
  exact List.all_eq_true.mpr fun _ _ => rfl
theorem ok_ckT {f C : Addr} {fd : FuncData} (F : Fun K "check_thing" "check_thing" sCkT f fd) (B : Blt mg) (Z : Err1 P w K mg base "NoThing" "name" C) : FnOk P w K mg base (L2.CX P w) 3 f fd ["names", "name"] (spCkT K C) := by
  obtain ⟨fI, fdI, z, g⟩ := Z.ex
  refine F.okX scCkT (fun vs H Q E h => ?_) (fun cdv A outer s H vs Q E hr h => ?_)
  · obtain ⟨x, y, l, b, rfl, _⟩ := h
    rfl
  · obtain ⟨x, y, l, b, rfl, hN, hA, k1, k2⟩ := h
    refine ⟨_, pss_one (ps_if (PW.pt (pw_or (pt_not (pt_val (pe_callB call_isi (by rfl) B.isi (by decide +kernel) (pa_cons (pv 1) (pa_cons (pe_bltn (v := .ty "str") (by rfl) B.str (by decide +kernel) rfl) pa_nil)))))
        (pw_or1 (pt_cmpR (op_notIn_any (hu_of hr)) (pv 1) (pv 0) (by rfl))))) (pss_one (ps_raise rfl (takes_of (E := E) rfl rfl rfl rfl) (pmk_err z g hr Z.m (pa_cons (pv 1) pa_nil)))) pss_nil), ?_⟩
    rcases hA with ⟨s, rfl, rfl⟩ | ⟨rfl, T, ty, kt⟩
    · refine ⟨_, rfl, _, _, _, _, _, rfl, .ty _, .base (.str s), kit_ty (r := true) (by decide +kernel), _, rfl, ?_⟩
      refine iteF ?_
      have fin : ∀ b, b = decide (s ∈ l) → (if (!b) = true then tRaiseE C "name" (fun cls d _ H => E cls d H) (tCons (tVar 1) tNil) { nx := fun _ H' => Q .non H', rt := Q } (L2.start ["names", "name"] [x, .str s]) H else Q .non H) := by
        rintro b rfl
        by_cases c : s ∈ l
        · rw [decide_eq_true c]
          exact iteF (k1 (decide_eq_true c))
        · rw [decide_eq_false c]
          exact iteT ⟨_, rfl, _, rfl, fun d hd => k2 (decide_eq_false c) d hd⟩
      rcases hN with ⟨a, kvs, rfl, hd, hk⟩ | ⟨a, rfl, hq⟩
      · exact ⟨_, rfl, _, rfl, .inl ⟨a, _, rfl, .inl ⟨kvs, Sum.inr s, hd, rfl, rfl⟩, _, rfl, fin _ (valV_keys hk s)⟩⟩
      · exact ⟨_, rfl, _, rfl, .inr ⟨a, _, rfl, .inr hq, rfl, flat_strs l, _, rfl, fin _ (inV_strs s l)⟩⟩
    · refine ⟨_, rfl, _, _, _, _, _, rfl, .ty _, ty _ (Same.refl _), kit_ty kt, _, rfl, ?_⟩
      refine iteT (iteT ?_)
      exact ⟨_, rfl, _, rfl, fun d hd => k2 rfl d hd⟩
end
end TW
namespace TW
open PySem PySem.Spec PyProof.Rows L2
/-- a hand between two rows of its methods -/
structure HS where
  me : Int
  sh : Addr
  an : Addr
  ans : List V
  asked : Nat
  md : Addr
  mine : List (Key × V)
  wl : Addr
  words : List V
  pend : V
  fin : V
  halted : Bool
def HS.fs (h : HS) : List (Str × V) := hF (.int h.me) (.ref h.sh) (.ref h.an) (.int (h.asked : Int)) (.ref h.md) (.ref h.wl) h.pend h.fin (.bl h.halted)
structure HandAt (K : PySem.W.Frag) (C : Addr) (H : Hp) (hd dx : Addr) (h : HS) : Prop where
  ob : H hd = some (.ins C dx h.fs)
  a : SqT K H h.an h.ans
  m : H h.md = some (.dK h.mine)
  w : H h.wl = some (.lst h.words)
/-- what the top has written of the class Hand -/
structure HTxt (K : PySem.W.Frag) (C : Addr) : Prop where
  cl : Cls K C
  me : NoAttr K C "me"
  shop : NoAttr K C "shop"
  answers : NoAttr K C "answers"
  asked : NoAttr K C "asked"
  mine : NoAttr K C "mine"
  words : NoAttr K C "words"
  pending : NoAttr K C "pending"
  end_ : NoAttr K C "end"
  halted : NoAttr K C "halted"
section
variable {K : PySem.W.Frag} {C : Addr} {H H' : Hp} {hd dx : Addr} {h h' : HS}
theorem seqT_ins {a : Addr} {xs : List V} {fs gs : List (Str × V)} (e : H hd = some (.ins C dx fs)) (q : SqT K H a xs) : SqT K (upd H hd (.ins C dx gs)) a xs := by
  have ne : ∀ {b : Addr} {o : HO}, H b = some o → (∀ gs, o ≠ .ins C dx gs) → b ≠ hd := fun {b o} z n y => by
    rw [y, e] at z
    exact n _ (Option.some.inj z).symm
  rcases q with (q | ⟨o, q⟩) | q
  · exact .inl (.inl (by rw [upd_ne (ne q (fun _ z => by cases z))]; exact q))
  · exact .inl (.inr ⟨o, by rw [upd_ne (ne q (fun _ z => by cases z))]; exact q⟩)
  · exact .inr q
/-- a plain field is stored -/
theorem HandAt.set (A : HandAt K C H hd dx h) (h1 : h'.an = h.an ∧ h'.ans = h.ans ∧ h'.md = h.md ∧ h'.mine = h.mine ∧ h'.wl = h.wl ∧ h'.words = h.words) : HandAt K C (upd H hd (.ins C dx h'.fs)) hd dx h' := by
  obtain ⟨e1, e2, e3, e4, e5, e6⟩ := h1
  refine ⟨upd_same, ?_, ?_, ?_⟩
  · rw [e1, e2]
    exact seqT_ins A.ob A.a
  · rw [e3, e4, upd_ne (ne_of A.m A.ob (by intro z; cases z))]
    exact A.m
  · rw [e5, e6, upd_ne (ne_of A.w A.ob (by intro z; cases z))]
    exact A.w
theorem HandAt.same (e : Same H H') (A : HandAt K C H hd dx h) : HandAt K C H' hd dx h := ⟨e _ _ A.ob, seqT_same e A.a, e _ _ A.m, e _ _ A.w⟩
end
def spGoing (K : PySem.W.Frag) (C CH : Addr) : Sp := fun vs H Q E => ∃ (hd dx : Addr) (h : HS), vs = [.ref hd] ∧ HandAt K C H hd dx h ∧ (h.halted = false → Q .non H) ∧ (h.halted = true → E (.ref CH) none H)
def spHalt (K : PySem.W.Frag) (C CH : Addr) : Sp := fun vs H Q E => ∃ (hd dx : Addr) (h : HS), vs = [.ref hd] ∧ HandAt K C H hd dx h ∧ E (.ref CH) none (upd H hd (.ins C dx { h with halted := true }.fs))
def spAsk (K : PySem.W.Frag) (C CH : Addr) : Sp := fun vs H Q E => ∃ (hd dx : Addr) (h : HS) (wish : V), vs = [.ref hd, wish] ∧ HandAt K C H hd dx h ∧ h.asked ≤ h.ans.length ∧ h.ans.length ≤ 1000 ∧
  (∀ v, h.ans[h.asked]? = some v → Q v (upd H hd (.ins C dx { h with asked := h.asked + 1 }.fs))) ∧ (h.asked = h.ans.length → E (.ref CH) none (upd H hd (.ins C dx { h with pend := wish, halted := true }.fs)))
section
variable {P : Program} {w : World} {K : PySem.W.Frag} {mg : Str → Option Value} {base : Heap} {C CH : Addr}
theorem scGoing : FnScope ["hand"] ["hand"] (defScope sGoing) := ⟨rfl, rfl, rfl, by decide +kernel, rfl, by decide +kernel, by decide +kernel⟩
theorem ok_going {f : Addr} {fd : FuncData} (F : Fun K "check_going" "check_going" sGoing f fd) (T : HTxt K C) (Z : Err0 K mg "Held" CH) : FnOk P w K mg base (L2.CX P w) 1 f fd ["hand"] (spGoing K C CH) := by
  refine F.okX scGoing (fun vs H Q E h => ?_) (fun cdv A outer s H vs Q E hr h => ?_)
  · obtain ⟨hd, dx, h, rfl, _⟩ := h
    rfl
  · obtain ⟨hd, dx, h, rfl, hA, k1, k2⟩ := h
    refine ⟨_, pss_one (ps_if (pt_val (pe_fld (pv 0) rfl)) (pss_one (ps_raise rfl (takes_of (E := E) rfl rfl rfl rfl) (pmk_exc0 PySem.F.excBase_Exception Z.q Z.m Z.k (raises_own Z.b Z.t)))) pss_nil), ?_⟩
    refine ⟨_, rfl, hd, C, dx, _, _, rfl, hA.ob, T.cl, T.halted, hF_get8, _, rfl, ?_⟩
    cases e : h.halted with
    | true => exact iteT (k2 e)
    | false => exact iteF (k1 e)
theorem scHalt : FnScope ["hand"] ["hand"] (defScope sHalt) := ⟨rfl, rfl, rfl, by decide +kernel, rfl, by decide +kernel, by decide +kernel⟩
theorem few9 {a b c d e f g i j : V} : (hF a b c d e f g i j).length < 1000 := by
  show 9 < 1000
  decide
theorem ok_halt {f : Addr} {fd : FuncData} (F : Fun K "halt" "halt" sHalt f fd) (T : HTxt K C) (Z : Err0 K mg "Held" CH) : FnOk P w K mg base (L2.CX P w) 1 f fd ["hand"] (spHalt K C CH) := by
  refine F.okX scHalt (fun vs H Q E h => ?_) (fun cdv A outer s H vs Q E hr h => ?_)
  · obtain ⟨hd, dx, h, rfl, _⟩ := h
    rfl
  · obtain ⟨hd, dx, h, rfl, hA, k⟩ := h
    refine ⟨_, pss_cons (ps_fld (pv 0) pe_bl rfl) (pss_one (ps_raise rfl (takes_of (E := E) rfl rfl rfl rfl) (pmk_exc0 PySem.F.excBase_Exception Z.q Z.m Z.k (raises_own Z.b Z.t)))), ?_⟩
    refine ⟨_, rfl, hd, C, dx, _, rfl, hA.ob, T.cl, T.halted, few9, ?_⟩
    unfold HS.fs at k ⊢
    rw [hF_put8]
    exact k
theorem scAsk : FnScope ["hand", "wish", "answer"] ["hand", "wish"] (defScope sAsk) := ⟨rfl, rfl, rfl, by decide +kernel, rfl, by decide +kernel, by decide +kernel⟩
theorem ok_ask {f fH : Addr} {fd fdH : FuncData} (F : Fun K "ask" "ask" sAsk f fd) (B : Blt mg) (T : HTxt K C) (G : FnOk P w K mg base (L2.CX P w) 1 fH fdH ["hand"] (spHalt K C CH)) (mH : mg "halt" = some (.ref fH)) (kH : PySem.W.keepIn K (.ref fH) = true) (bH : Binds K fdH ["hand"] []) :
    FnOk P w K mg base (L2.CX P w) 2 f fd ["hand", "wish"] (spAsk K C CH) := by
  refine F.okX scAsk (fun vs H Q E h => ?_) (fun cdv A outer s H vs Q E hr h => ?_)
  · obtain ⟨hd, dx, h, wish, rfl, _⟩ := h
    rfl
  · obtain ⟨hd, dx, h, wish, rfl, hA, le, few, k1, k2⟩ := h
    refine ⟨_, pss_cons (ps_if (pt_cmpR op_eq (pe_fld (pv 0) rfl) (pe_callB call_len_seq (by rfl) B.len PySem.boot_len (pa_cons (pe_fld (pv 0) rfl) pa_nil)) (nomark _))
        (pss_cons (ps_fld (pv 0) (pv 1) rfl) (pss_one (ps_expr (pe_callS G hr rfl mH kH bH (fun σ => passAt (takes_of (E := E) rfl rfl rfl rfl) σ) (pa_cons (pv 0) pa_nil))))) pss_nil)
      (pss_cons (ps_set (i := 2) scAsk.nd rfl (.inl rfl) (pe_ix ix_tup (pe_fld (pv 0) rfl) (pe_fld (pv 0) rfl) (fun _ _ => rfl)))
      (pss_cons (ps_fldaug (pv 0) pe_int in_add)
      (pss_one (ps_ret (pv 2))))), ?_⟩
    refine ⟨_, rfl, hd, C, dx, _, _, rfl, hA.ob, T.cl, T.asked, hF_get3, _, rfl, hd, C, dx, _, _, rfl, hA.ob, T.cl, T.answers, hF_get2, h.an, _, rfl, .inr hA.a, rfl, _, rfl, ?_⟩
    by_cases c : h.asked = h.ans.length
    · rw [decide_eq_true (by rw [c])]
      refine iteT ?_
      refine ⟨_, rfl, _, rfl, hd, C, dx, _, rfl, hA.ob, T.cl, T.pending, few9, ?_⟩
      have e := k2 c
      have hB : HandAt K C (upd H hd (.ins C dx { h with pend := wish }.fs)) hd dx { h with pend := wish } := hA.set ⟨rfl, rfl, rfl, rfl, rfl, rfl⟩
      unfold HS.fs at hB ⊢
      rw [hF_put6]
      refine ⟨_, rfl, hd, dx, { h with pend := wish }, rfl, hB, ?_⟩
      rw [upd_upd]
      exact e
    · rw [decide_eq_false (by intro z; apply c; have := V.int.inj z; omega)]
      refine iteF ?_
      have lt : h.asked < h.ans.length := by omega
      have hv : h.ans[h.asked]? = some h.ans[h.asked] := List.getElem?_eq_getElem lt
      refine ⟨_, rfl, hd, C, dx, _, _, rfl, hA.ob, T.cl, T.answers, hF_get2, _, rfl, hd, C, dx, _, _, rfl, hA.ob, T.cl, T.asked, hF_get3, h.an, _, _, _, rfl, rfl, hA.a, atI_nat hv, ?_⟩
      refine ⟨_, rfl, hd, C, dx, _, _, rfl, hA.ob, T.cl, T.asked, hF_get3, _, _, rfl, rfl, _, _, hA.ob, few9, ?_⟩
      have e := k1 _ hv
      unfold HS.fs at e ⊢
      rw [hF_put3]
      exact ⟨_, rfl, e⟩
end
end TW
namespace TW
open PySem PySem.Spec PyProof.Rows L2
section
variable {X : Cx} {CX : CXT} {k : Nat} {f : Addr} {sp : Sp} {E : XK} {x : Str} {p pos : Pos} {e : Expr} {es : List Expr} {t : TA}
/-- x(e, ..), x a def told by what it does with the values that come -/
theorem pe_callR (F : FnR X.prog X.w X.K X.mg X.base CX k f sp) (hr : Room k X.A) (hk : PySem.W.keepIn X.K (.ref f) = true) (hg : Gl X x) (hm : X.mg x = some (.ref f)) (hx : Passes CX X E) (ha : PA X (e :: es) t) (hd : (x == ("__debug__" : Str)) = false := by decide)
    (he : starEach (e :: es) X.env = (false, eval e X.env) :: starEach es X.env := by rfl) (hpl : (backTo pos (starEach es X.env)).any (·.1) = false := by rfl) :
    PE X (.Call (.Name x p) (e :: es) [] pos) (fun σ H Q => t σ H fun vs H1 => sp vs H1 Q E) := by
  refine ⟨fun pins s σ H Q I h => ?_⟩
  refine wpAny_Call_Name_kw (ld_glob I hg hm ?_ hd)
  refine PySem.W.callWith_K (h₀ := X.base) I.ok.mod.kin hk (thn (ha.run pos pins s σ H _ I h) fun us s1 ⟨vs, H1, I1, r, q⟩ => ⟨I1.kIn, ?_⟩) he hpl
  exact wpAny_call (run_fnR F hr hx I1 r q)
end
theorem bind_star3 {B : List Value → Sem (List (Str × Value))} {p1 p2 p3 pv : Str} (h0 : ∀ a b c, B [a, b, c] = (newTuple [] >>= fun t => pure [(p1, a), (p2, b), (p3, c), (pv, t)])) (h1 : ∀ a b c r rs, B (a :: b :: c :: r :: rs) = (newTuple (r :: rs) >>= fun t => pure [(p1, a), (p2, b), (p3, c), (pv, t)])) :
    ∀ us rest : List Value, us.length = [p1, p2, p3].length → B (us ++ rest) = (newTuple rest >>= fun t => pure ([p1, p2, p3].zip us ++ [(pv, t)]))
  | [a, b, c], [], _ => h0 a b c
  | [a, b, c], r :: rs, _ => h1 a b c r rs
abbrev sCall : Stmt := top 23
/-- the errors of a call in their order, else nothing -/
def spCallB (K : PySem.W.Frag) (C CH CN CV : Addr) (n : Nat) : Sp := fun vs H Q E => ∃ (hd dx tp : Addr) (h : HS) (x y : V) (l : List Str) (b : Bool) (rest : List V) (cs : List Bool), vs = [.ref hd, x, y, .ref tp] ∧ H tp = some (.tup rest) ∧ rest.length = cs.length ∧ rest.length ≤ 1000 ∧ HandAt K C H hd dx h ∧ Names K H x l ∧ Among K H l y b ∧
  (∀ (i : Nat) (r : V) (c : Bool), rest[i]? = some r → cs[i]? = some c → Vn K H n r c) ∧ (h.halted = true → E (.ref CH) none H) ∧ (h.halted = false → b = false → EX E CN "name" y H) ∧
  (h.halted = false → b = true → ∀ H', Same H H' → (∀ (i : Nat) (r : V), rest[i]? = some r → cs[i]? = some false → (∀ j, j < i → cs[j]? = some true) → EX E CV "value" r H') ∧ (cs.all id = true → Q .non H'))
section
variable {P : Program} {w : World} {K : PySem.W.Frag} {mg : Str → Option Value} {base : Heap} {C CH CN CV : Addr}
theorem scCall : FnScope ["hand", "names", "name", "given", "value"] (([("hand" : Str), "names", "name"] : List Str) ++ [("given" : Str)]) (defScope sCall) := ⟨rfl, rfl, rfl, by decide +kernel, rfl, by decide +kernel, by decide +kernel⟩
theorem ok_call {f fG fT fV : Addr} {fd fdG fdT fdV : FuncData} {n : Nat} (F : Fun K "check_call" "check_call" sCall f fd)
    (GG : FnOk P w K mg base (L2.CX P w) 1 fG fdG ["hand"] (spGoing K C CH)) (mG : mg "check_going" = some (.ref fG)) (kG : PySem.W.keepIn K (.ref fG) = true) (bG : Binds K fdG ["hand"] [])
    (GT : FnOk P w K mg base (L2.CX P w) 3 fT fdT ["names", "name"] (spCkT K CN)) (mT : mg "check_thing" = some (.ref fT)) (kT : PySem.W.keepIn K (.ref fT) = true) (bT : Binds K fdT ["names", "name"] [])
    (GV : FnOk P w K mg base (L2.CX P w) (n + 3) fV fdV ["given"] (spCkV K CV n)) (mV : mg "check_value" = some (.ref fV)) (kV : PySem.W.keepIn K (.ref fV) = true) (bV : Binds K fdV ["given"] []) :
    FnR P w K mg base (L2.CX P w) (n + 4) f (fun vs H Q E => ∃ ws rest, vs = ws ++ rest ∧ ws.length = (["hand", "names", "name"] : List Str).length ∧ rest.length ≤ sizeLine ∧ ∀ p, H p = Option.none → spCallB K C CH CN CV n (ws ++ [V.ref p]) (upd H p (.tup rest)) Q E) := by
  obtain ⟨oc, od, kVV, doc, pm, an, cdv, ct, osl, rfl, lk, hcd⟩ := F.ex
  refine StX.fn_star (ps := ["hand", "names", "name"]) (pv := "given") lk hcd scCall StX.cxUp (bind_star3 (B := fun us => bindArgs (PySem.W.fnOf "check_call" "check_call" (defArgs sCall) (defBody sCall) (defScope sCall) .none kVV doc pm an cdv ct) ⟨us, []⟩) (fun _ _ _ => rfl) (fun _ _ _ _ _ => rfl)) fun A outer s H vs Q E hr h => ?_
  obtain ⟨hd, dx, tp, h, x, y, l, b, rest, cs, rfl, htp, hlen, few, hA, hN, hY, hR, k1, k2, k3⟩ := h
  have hr1 : Room 1 _ := hr.mono (by omega)
  have hr3 : Room 3 _ := hr.mono (by omega)
  refine ⟨_, pss_cons (ps_expr (pe_callS GG hr1 rfl mG kG bG (fun σ => passAt (takes_of (E := E) rfl rfl rfl rfl) σ) (pa_cons (pv 0) pa_nil)))
    (pss_cons (ps_expr (pe_callS GT hr3 rfl mT kT bT (fun σ => passAt (takes_of (E := E) rfl rfl rfl rfl) σ) (pa_cons (pv 1) (pa_cons (pv 2) pa_nil))))
    (pss_one (ps_for (passes_of rfl) rfl (pi_tup (pv 3)) (pg_name (i := 4) scCall.nd rfl (Or.inl rfl))
      (pss_one (ps_expr (pe_callS GV hr rfl mV kV bV (fun σ => passAt (takes_of (E := E) rfl rfl rfl rfl) σ) (pa_cons (pv 4) pa_nil))))))), ?_⟩
  refine ⟨_, rfl, hd, dx, h, rfl, hA, fun nh => ?_, fun hh => k1 hh⟩
  refine ⟨_, rfl, _, rfl, x, y, l, b, rfl, hN, hY, fun hb => ?_, fun hb => k2 nh hb⟩
  refine ⟨_, rfl, tp, rfl, ⟨_, SqT.of htp⟩, ?_⟩
  refine for_tup (K := K) (a := tp) (xs := rest) (fun i σ H' => (∃ v : Option V, σ = [some (.ref hd), some x, some y, some (.ref tp), v]) ∧ Same H H' ∧ ∀ j, j < i → cs[j]? = some true) ⟨⟨_, rfl⟩, Same.refl _, fun j hj => absurd hj (Nat.not_lt_zero j)⟩ (fun i σ H' _ z => SqT.of (z.2.1 _ _ htp)) ?_ ?_
  · rintro i r σ H' hi ⟨⟨v, rfl⟩, e, g⟩
    have lt : i < cs.length := hlen ▸ (List.getElem?_eq_some_iff.mp hi).1
    have hc : cs[i]? = some cs[i] := List.getElem?_eq_getElem lt
    refine ⟨_, rfl, r, cs[i], rfl, (hR i r _ hi hc).same e, fun H2 e2 => ⟨fun c => ?_, fun c => ?_⟩⟩
    · refine ⟨⟨_, rfl⟩, e.trans e2, fun j hj => ?_⟩
      by_cases q : j = i
      · rw [q, hc, c]
      · exact g j (by omega)
    · exact (k3 nh hb H2 (e.trans e2)).1 i r hi (by rw [hc, c]) g
  · rintro σ H' ⟨⟨v, rfl⟩, e, g⟩
    refine (k3 nh hb H' e).2 (List.all_eq_true.mpr fun c hc => ?_)
    obtain ⟨j, hj, q⟩ := List.getElem_of_mem hc
    have z := g j (hlen ▸ hj)
    rw [List.getElem?_eq_getElem hj, q] at z
    exact Option.some.inj z
end
end TW
namespace TW
open PySem PySem.Spec PyProof.Rows L2
theorem sF_n0_1 : ¬ (("works" : Str) = "cells") := by decide +kernel
theorem sF_n0_2 : ¬ (("works" : Str) = "locks") := by decide +kernel
theorem sF_n0_3 : ¬ (("works" : Str) = "belts") := by decide +kernel
theorem sF_n0_4 : ¬ (("works" : Str) = "many") := by decide +kernel
theorem sF_n0_5 : ¬ (("works" : Str) = "longest") := by decide +kernel
theorem sF_n0_6 : ¬ (("works" : Str) = "most") := by decide +kernel
theorem sF_n1_0 : ¬ (("cells" : Str) = "works") := by decide +kernel
theorem sF_n1_2 : ¬ (("cells" : Str) = "locks") := by decide +kernel
theorem sF_n1_3 : ¬ (("cells" : Str) = "belts") := by decide +kernel
theorem sF_n1_4 : ¬ (("cells" : Str) = "many") := by decide +kernel
theorem sF_n1_5 : ¬ (("cells" : Str) = "longest") := by decide +kernel
theorem sF_n1_6 : ¬ (("cells" : Str) = "most") := by decide +kernel
theorem sF_n2_0 : ¬ (("locks" : Str) = "works") := by decide +kernel
theorem sF_n2_1 : ¬ (("locks" : Str) = "cells") := by decide +kernel
theorem sF_n2_3 : ¬ (("locks" : Str) = "belts") := by decide +kernel
theorem sF_n2_4 : ¬ (("locks" : Str) = "many") := by decide +kernel
theorem sF_n2_5 : ¬ (("locks" : Str) = "longest") := by decide +kernel
theorem sF_n2_6 : ¬ (("locks" : Str) = "most") := by decide +kernel
theorem sF_n3_0 : ¬ (("belts" : Str) = "works") := by decide +kernel
theorem sF_n3_1 : ¬ (("belts" : Str) = "cells") := by decide +kernel
theorem sF_n3_2 : ¬ (("belts" : Str) = "locks") := by decide +kernel
theorem sF_n3_4 : ¬ (("belts" : Str) = "many") := by decide +kernel
theorem sF_n3_5 : ¬ (("belts" : Str) = "longest") := by decide +kernel
theorem sF_n3_6 : ¬ (("belts" : Str) = "most") := by decide +kernel
theorem sF_n4_0 : ¬ (("many" : Str) = "works") := by decide +kernel
theorem sF_n4_1 : ¬ (("many" : Str) = "cells") := by decide +kernel
theorem sF_n4_2 : ¬ (("many" : Str) = "locks") := by decide +kernel
theorem sF_n4_3 : ¬ (("many" : Str) = "belts") := by decide +kernel
theorem sF_n4_5 : ¬ (("many" : Str) = "longest") := by decide +kernel
theorem sF_n4_6 : ¬ (("many" : Str) = "most") := by decide +kernel
theorem sF_n5_0 : ¬ (("longest" : Str) = "works") := by decide +kernel
theorem sF_n5_1 : ¬ (("longest" : Str) = "cells") := by decide +kernel
theorem sF_n5_2 : ¬ (("longest" : Str) = "locks") := by decide +kernel
theorem sF_n5_3 : ¬ (("longest" : Str) = "belts") := by decide +kernel
theorem sF_n5_4 : ¬ (("longest" : Str) = "many") := by decide +kernel
theorem sF_n5_6 : ¬ (("longest" : Str) = "most") := by decide +kernel
theorem sF_n6_0 : ¬ (("most" : Str) = "works") := by decide +kernel
theorem sF_n6_1 : ¬ (("most" : Str) = "cells") := by decide +kernel
theorem sF_n6_2 : ¬ (("most" : Str) = "locks") := by decide +kernel
theorem sF_n6_3 : ¬ (("most" : Str) = "belts") := by decide +kernel
theorem sF_n6_4 : ¬ (("most" : Str) = "many") := by decide +kernel
theorem sF_n6_5 : ¬ (("most" : Str) = "longest") := by decide +kernel
/-- the attributes of a sF, in the order in which __init__ stores them -/
def sF (v0 v1 v2 v3 v4 v5 v6 : V) : List (Str × V) := [("works", v0), ("cells", v1), ("locks", v2), ("belts", v3), ("many", v4), ("longest", v5), ("most", v6)]
theorem sF_get0 {v0 v1 v2 v3 v4 v5 v6 : V} : (sF v0 v1 v2 v3 v4 v5 v6).lookup ("works" : Str) = some v0 := by
  unfold sF
  rw [lookup_put, if_pos rfl]
theorem sF_put0 {v0 v1 v2 v3 v4 v5 v6 z : V} : putF "works" z (sF v0 v1 v2 v3 v4 v5 v6) = sF z v1 v2 v3 v4 v5 v6 := by
  unfold sF
  simp only [putF, if_true]
theorem sF_get1 {v0 v1 v2 v3 v4 v5 v6 : V} : (sF v0 v1 v2 v3 v4 v5 v6).lookup ("cells" : Str) = some v1 := by
  unfold sF
  rw [lookup_put, if_neg sF_n1_0, lookup_put, if_pos rfl]
theorem sF_put1 {v0 v1 v2 v3 v4 v5 v6 z : V} : putF "cells" z (sF v0 v1 v2 v3 v4 v5 v6) = sF v0 z v2 v3 v4 v5 v6 := by
  unfold sF
  simp only [putF, if_neg sF_n0_1, if_true]
theorem sF_get2 {v0 v1 v2 v3 v4 v5 v6 : V} : (sF v0 v1 v2 v3 v4 v5 v6).lookup ("locks" : Str) = some v2 := by
  unfold sF
  rw [lookup_put, if_neg sF_n2_0, lookup_put, if_neg sF_n2_1, lookup_put, if_pos rfl]
theorem sF_put2 {v0 v1 v2 v3 v4 v5 v6 z : V} : putF "locks" z (sF v0 v1 v2 v3 v4 v5 v6) = sF v0 v1 z v3 v4 v5 v6 := by
  unfold sF
  simp only [putF, if_neg sF_n0_2, if_neg sF_n1_2, if_true]
theorem sF_get3 {v0 v1 v2 v3 v4 v5 v6 : V} : (sF v0 v1 v2 v3 v4 v5 v6).lookup ("belts" : Str) = some v3 := by
  unfold sF
  rw [lookup_put, if_neg sF_n3_0, lookup_put, if_neg sF_n3_1, lookup_put, if_neg sF_n3_2, lookup_put, if_pos rfl]
theorem sF_put3 {v0 v1 v2 v3 v4 v5 v6 z : V} : putF "belts" z (sF v0 v1 v2 v3 v4 v5 v6) = sF v0 v1 v2 z v4 v5 v6 := by
  unfold sF
  simp only [putF, if_neg sF_n0_3, if_neg sF_n1_3, if_neg sF_n2_3, if_true]
theorem sF_get4 {v0 v1 v2 v3 v4 v5 v6 : V} : (sF v0 v1 v2 v3 v4 v5 v6).lookup ("many" : Str) = some v4 := by
  unfold sF
  rw [lookup_put, if_neg sF_n4_0, lookup_put, if_neg sF_n4_1, lookup_put, if_neg sF_n4_2, lookup_put, if_neg sF_n4_3, lookup_put, if_pos rfl]
theorem sF_put4 {v0 v1 v2 v3 v4 v5 v6 z : V} : putF "many" z (sF v0 v1 v2 v3 v4 v5 v6) = sF v0 v1 v2 v3 z v5 v6 := by
  unfold sF
  simp only [putF, if_neg sF_n0_4, if_neg sF_n1_4, if_neg sF_n2_4, if_neg sF_n3_4, if_true]
theorem sF_get5 {v0 v1 v2 v3 v4 v5 v6 : V} : (sF v0 v1 v2 v3 v4 v5 v6).lookup ("longest" : Str) = some v5 := by
  unfold sF
  rw [lookup_put, if_neg sF_n5_0, lookup_put, if_neg sF_n5_1, lookup_put, if_neg sF_n5_2, lookup_put, if_neg sF_n5_3, lookup_put, if_neg sF_n5_4, lookup_put, if_pos rfl]
theorem sF_put5 {v0 v1 v2 v3 v4 v5 v6 z : V} : putF "longest" z (sF v0 v1 v2 v3 v4 v5 v6) = sF v0 v1 v2 v3 v4 z v6 := by
  unfold sF
  simp only [putF, if_neg sF_n0_5, if_neg sF_n1_5, if_neg sF_n2_5, if_neg sF_n3_5, if_neg sF_n4_5, if_true]
theorem sF_get6 {v0 v1 v2 v3 v4 v5 v6 : V} : (sF v0 v1 v2 v3 v4 v5 v6).lookup ("most" : Str) = some v6 := by
  unfold sF
  rw [lookup_put, if_neg sF_n6_0, lookup_put, if_neg sF_n6_1, lookup_put, if_neg sF_n6_2, lookup_put, if_neg sF_n6_3, lookup_put, if_neg sF_n6_4, lookup_put, if_neg sF_n6_5, lookup_put, if_pos rfl]
theorem sF_put6 {v0 v1 v2 v3 v4 v5 v6 z : V} : putF "most" z (sF v0 v1 v2 v3 v4 v5 v6) = sF v0 v1 v2 v3 v4 v5 z := by
  unfold sF
  simp only [putF, if_neg sF_n0_6, if_neg sF_n1_6, if_neg sF_n2_6, if_neg sF_n3_6, if_neg sF_n4_6, if_neg sF_n5_6, if_true]
theorem sF_make0 {v0 : V} : putF "works" v0 ([] : List (Str × V)) = ([("works", v0)] : List (Str × V)) := rfl
theorem sF_make1 {v0 v1 : V} : putF "cells" v1 ([("works", v0)] : List (Str × V)) = ([("works", v0), ("cells", v1)] : List (Str × V)) := by
  simp only [putF, if_neg sF_n0_1, if_true]
theorem sF_make2 {v0 v1 v2 : V} : putF "locks" v2 ([("works", v0), ("cells", v1)] : List (Str × V)) = ([("works", v0), ("cells", v1), ("locks", v2)] : List (Str × V)) := by
  simp only [putF, if_neg sF_n0_2, if_neg sF_n1_2, if_true]
theorem sF_make3 {v0 v1 v2 v3 : V} : putF "belts" v3 ([("works", v0), ("cells", v1), ("locks", v2)] : List (Str × V)) = ([("works", v0), ("cells", v1), ("locks", v2), ("belts", v3)] : List (Str × V)) := by
  simp only [putF, if_neg sF_n0_3, if_neg sF_n1_3, if_neg sF_n2_3, if_true]
theorem sF_make4 {v0 v1 v2 v3 v4 : V} : putF "many" v4 ([("works", v0), ("cells", v1), ("locks", v2), ("belts", v3)] : List (Str × V)) = ([("works", v0), ("cells", v1), ("locks", v2), ("belts", v3), ("many", v4)] : List (Str × V)) := by
  simp only [putF, if_neg sF_n0_4, if_neg sF_n1_4, if_neg sF_n2_4, if_neg sF_n3_4, if_true]
theorem sF_make5 {v0 v1 v2 v3 v4 v5 : V} : putF "longest" v5 ([("works", v0), ("cells", v1), ("locks", v2), ("belts", v3), ("many", v4)] : List (Str × V)) = ([("works", v0), ("cells", v1), ("locks", v2), ("belts", v3), ("many", v4), ("longest", v5)] : List (Str × V)) := by
  simp only [putF, if_neg sF_n0_5, if_neg sF_n1_5, if_neg sF_n2_5, if_neg sF_n3_5, if_neg sF_n4_5, if_true]
theorem sF_make6 {v0 v1 v2 v3 v4 v5 v6 : V} : putF "most" v6 ([("works", v0), ("cells", v1), ("locks", v2), ("belts", v3), ("many", v4), ("longest", v5)] : List (Str × V)) = ([("works", v0), ("cells", v1), ("locks", v2), ("belts", v3), ("many", v4), ("longest", v5), ("most", v6)] : List (Str × V)) := by
  simp only [putF, if_neg sF_n0_6, if_neg sF_n1_6, if_neg sF_n2_6, if_neg sF_n3_6, if_neg sF_n4_6, if_neg sF_n5_6, if_true]
theorem sF_no {v0 v1 v2 v3 v4 v5 v6 : V} {m : Str} (h0 : ¬ m = ("works" : Str)) (h1 : ¬ m = ("cells" : Str)) (h2 : ¬ m = ("locks" : Str)) (h3 : ¬ m = ("belts" : Str)) (h4 : ¬ m = ("many" : Str)) (h5 : ¬ m = ("longest" : Str)) (h6 : ¬ m = ("most" : Str)) : (sF v0 v1 v2 v3 v4 v5 v6).lookup m = none := by
  unfold sF
  rw [lookup_put, if_neg h0, lookup_put, if_neg h1, lookup_put, if_neg h2, lookup_put, if_neg h3, lookup_put, if_neg h4, lookup_put, if_neg h5, lookup_put, if_neg h6]
  rfl
/-- a shop as __init__ has left it -/
structure SS where
  dx : Addr
  wt : Addr
  works : List V
  cd : Addr
  cells : List (Key × V)
  cellN : List Str
  lt : Addr
  locks : List Str
  bd : Addr
  belts : List (Key × V)
  beltN : List Str
  many : Int
  longest : Int
  most : Int
structure ShopAt (K : PySem.W.Frag) (C : Addr) (H : Hp) (sh : Addr) (S : SS) : Prop where
  ob : H sh = some (.ins C S.dx (sF (.ref S.wt) (.ref S.cd) (.ref S.lt) (.ref S.bd) (.int S.many) (.int S.longest) (.int S.most)))
  w : SqT K H S.wt S.works
  c : H S.cd = some (.dK S.cells)
  cn : S.cells.map (·.1) = S.cellN.map Sum.inr
  l : SqT K H S.lt (S.locks.map V.str)
  b : H S.bd = some (.dK S.belts)
  bn : S.belts.map (·.1) = S.beltN.map Sum.inr
structure STxt (K : PySem.W.Frag) (C : Addr) : Prop where
  cl : Cls K C
  works : NoAttr K C "works"
  cells : NoAttr K C "cells"
  locks : NoAttr K C "locks"
  belts : NoAttr K C "belts"
  many : NoAttr K C "many"
  longest : NoAttr K C "longest"
  most : NoAttr K C "most"
section
variable {K : PySem.W.Frag} {H H' : Hp}
theorem ShopAt.same {C sh : Addr} {S : SS} (e : Same H H') (A : ShopAt K C H sh S) : ShopAt K C H' sh S := ⟨e _ _ A.ob, seqT_same e A.w, e _ _ A.c, A.cn, seqT_same e A.l, e _ _ A.b, A.bn⟩
theorem Names.same {x : V} {l : List Str} (e : Same H H') (h : Names K H x l) : Names K H' x l := by
  rcases h with ⟨a, kvs, rfl, (h | ⟨o, h⟩), k⟩ | ⟨a, rfl, h⟩
  · exact .inl ⟨a, kvs, rfl, .inl (e _ _ h), k⟩
  · exact .inl ⟨a, kvs, rfl, .inr ⟨o, e _ _ h⟩, k⟩
  · exact .inr ⟨a, rfl, seqT_same e h⟩
theorem Among.same {l : List Str} {y : V} {b : Bool} (e : Same H H') (h : Among K H l y b) : Among K H' l y b := by
  rcases h with h | ⟨rfl, T, ty, k⟩
  · exact .inl h
  · exact .inr ⟨rfl, T, fun H'' z => ty H'' (e.trans z), k⟩
end
/-- a wish about a thing: the errors in their order, else its answer, or the end of the run -/
def spWish (K : PySem.W.Frag) (C CS CH CN CV : Addr) (n m : Nat) (names : SS → List Str) (word : Str) : Sp := fun vs H Q E => ∃ (hd dx : Addr) (h : HS) (S : SS) (y : V) (b : Bool) (rest : List V) (cs : List Bool), vs = .ref hd :: y :: rest ∧ rest.length = m ∧ HandAt K C H hd dx h ∧ ShopAt K CS H h.sh S ∧
  h.asked ≤ h.ans.length ∧ h.ans.length ≤ 1000 ∧ Among K H (names S) y b ∧ rest.length = cs.length ∧ (∀ (i : Nat) (r : V) (c : Bool), rest[i]? = some r → cs[i]? = some c → Vn K H n r c) ∧
  ∀ H', Same H H' → (h.halted = true → E (.ref CH) none H') ∧ (h.halted = false → b = false → EX E CN "name" y H') ∧
    (h.halted = false → b = true → ∀ (i : Nat) (r : V), rest[i]? = some r → cs[i]? = some false → (∀ j, j < i → cs[j]? = some true) → EX E CV "value" r H') ∧
    (h.halted = false → b = true → cs.all id = true → (∀ v, h.ans[h.asked]? = some v → Q v (upd H' hd (.ins C dx { h with asked := h.asked + 1 }.fs))) ∧
      ∀ t, H' t = some (.tup (.str word :: y :: rest)) → h.asked = h.ans.length → E (.ref CH) none (upd H' hd (.ins C dx { h with pend := .ref t, halted := true }.fs)))
/-- the parts of a hand's methods -/
structure Parts (P : Program) (w : World) (K : PySem.W.Frag) (mg : Str → Option Value) (base : Heap) (C CH CN CV : Addr) (n : Nat) : Prop where
  c : ∃ fC, FnR P w K mg base (L2.CX P w) (n + 4) fC (fun vs H Q E => ∃ ws rest, vs = ws ++ rest ∧ ws.length = (["hand", "names", "name"] : List Str).length ∧ rest.length ≤ sizeLine ∧ ∀ p, H p = Option.none → spCallB K C CH CN CV n (ws ++ [V.ref p]) (upd H p (.tup rest)) Q E) ∧
    mg "check_call" = some (.ref fC) ∧ PySem.W.keepIn K (.ref fC) = true
  a : ∃ fA fdA, FnOk P w K mg base (L2.CX P w) 2 fA fdA ["hand", "wish"] (spAsk K C CH) ∧ mg "ask" = some (.ref fA) ∧ PySem.W.keepIn K (.ref fA) = true ∧ Binds K fdA ["hand", "wish"] []
section
variable {P : Program} {w : World} {K : PySem.W.Frag} {mg : Str → Option Value} {base : Heap} {C CS CH CN CV : Addr} {n : Nat}
abbrev s_look : Stmt := inClass (top 26) 1
theorem sc_look : FnScope ["self", "cell"] ["self", "cell"] (defScope s_look) := ⟨rfl, rfl, rfl, by decide +kernel, rfl, by decide +kernel, by decide +kernel⟩
theorem ok_look {f : Addr} {fd : FuncData} (F : Fun K "look" "Hand.look" s_look f fd) (T : HTxt K C) (TS : STxt K CS) (Z : Parts P w K mg base C CH CN CV n) : FnOk P w K mg base (L2.CX P w) (n + 5) f fd ["self", "cell"] (spWish K C CS CH CN CV n 0 SS.cellN "look") := by
  obtain ⟨fC, GC, mC, kC⟩ := Z.c
  obtain ⟨fA, fdA, GA, mA, kA, bA⟩ := Z.a
  refine F.okX sc_look (fun vs H Q E h => ?_) (fun cdv A outer s H vs Q E hr h => ?_)
  · obtain ⟨hd, dx, h, S, y, b, rest, cs, rfl, hm, _⟩ := h
    show rest.length + 1 + 1 = 2
    rw [hm]
  · obtain ⟨hd, dx, h, S, y, b, rest, cs, rfl, hm, hA, hS, le, few, hY, hl, hR, kk⟩ := h
    obtain rfl : rest = [] := List.length_eq_zero_iff.mp hm
    have hr2 : Room 2 _ := hr.mono (by omega)
    refine ⟨_, pss_cons (ps_expr (pe_callR GC hr kC rfl mC (passes_call (takes_of (E := E) rfl rfl rfl rfl) fun _ _ _ _ z => z) (pa_cons (pv 0) (pa_cons (pe_fld (pe_fld (pv 0) rfl) rfl) (pa_cons (pv 1) pa_nil)))))
      (pss_one (ps_ret (pe_callS GA hr2 rfl mA kA bA (fun σ => passAt (takes_of (E := E) rfl rfl rfl rfl) σ) (pa_cons (pv 0) (pa_cons (pe_tup (pa_cons pe_str (pa_cons (pv 1) pa_nil))) pa_nil))))), ?_⟩
    refine ⟨_, rfl, _, rfl, hd, C, dx, _, _, rfl, hA.ob, T.cl, T.shop, hF_get1, h.sh, CS, S.dx, _, _, rfl, hS.ob, TS.cl, TS.cells, sF_get1, _, rfl, [.ref hd, .ref S.cd, y], [], rfl, rfl, by show 0 ≤ sizeLine; rw [sizeLine_eq]; decide, fun p hp => ?_⟩
    have e1 := same_new (o := .tup []) hp
    refine ⟨hd, dx, p, h, .ref S.cd, y, S.cellN, b, [], cs, rfl, upd_same, hl, by show 0 ≤ 1000; decide, hA.same e1, .inl ⟨S.cd, _, rfl, .inl (e1 _ _ hS.c), hS.cn⟩, hY.same e1, fun i r c h1 h2 => (hR i r c h1 h2).same e1, (kk _ e1).1, (kk _ e1).2.1, fun nh hb H' e => ⟨(kk H' (e1.trans e)).2.2.1 nh hb, fun good => ?_⟩⟩
    have e2 := e1.trans e
    refine ⟨_, rfl, _, rfl, by show 2 ≤ sizeLine; rw [sizeLine_eq]; decide, fun t ht => ?_⟩
    have e3 := e2.trans (same_new (o := .tup (.str "look" :: y :: [])) ht)
    obtain ⟨q1, q2⟩ := (kk _ e3).2.2.2 nh hb good
    exact ⟨hd, dx, h, .ref t, rfl, hA.same e3, le, few, q1, q2 t upd_same⟩
abbrev s_put : Stmt := inClass (top 26) 2
theorem sc_put : FnScope ["self", "cell", "value"] ["self", "cell", "value"] (defScope s_put) := ⟨rfl, rfl, rfl, by decide +kernel, rfl, by decide +kernel, by decide +kernel⟩
theorem ok_put {f : Addr} {fd : FuncData} (F : Fun K "put" "Hand.put" s_put f fd) (T : HTxt K C) (TS : STxt K CS) (Z : Parts P w K mg base C CH CN CV n) : FnOk P w K mg base (L2.CX P w) (n + 5) f fd ["self", "cell", "value"] (spWish K C CS CH CN CV n 1 SS.cellN "put") := by
  obtain ⟨fC, GC, mC, kC⟩ := Z.c
  obtain ⟨fA, fdA, GA, mA, kA, bA⟩ := Z.a
  refine F.okX sc_put (fun vs H Q E h => ?_) (fun cdv A outer s H vs Q E hr h => ?_)
  · obtain ⟨hd, dx, h, S, y, b, rest, cs, rfl, hm, _⟩ := h
    show rest.length + 1 + 1 = 3
    rw [hm]
  · obtain ⟨hd, dx, h, S, y, b, rest, cs, rfl, hm, hA, hS, le, few, hY, hl, hR, kk⟩ := h
    obtain ⟨r1, rfl⟩ := List.length_eq_one_iff.mp hm
    have hr2 : Room 2 _ := hr.mono (by omega)
    refine ⟨_, pss_cons (ps_expr (pe_callR GC hr kC rfl mC (passes_call (takes_of (E := E) rfl rfl rfl rfl) fun _ _ _ _ z => z) (pa_cons (pv 0) (pa_cons (pe_fld (pe_fld (pv 0) rfl) rfl) (pa_cons (pv 1) (pa_cons (pv 2) pa_nil))))))
      (pss_one (ps_ret (pe_callS GA hr2 rfl mA kA bA (fun σ => passAt (takes_of (E := E) rfl rfl rfl rfl) σ) (pa_cons (pv 0) (pa_cons (pe_tup (pa_cons pe_str (pa_cons (pv 1) (pa_cons (pv 2) pa_nil)))) pa_nil))))), ?_⟩
    refine ⟨_, rfl, _, rfl, hd, C, dx, _, _, rfl, hA.ob, T.cl, T.shop, hF_get1, h.sh, CS, S.dx, _, _, rfl, hS.ob, TS.cl, TS.cells, sF_get1, _, rfl, _, rfl, [.ref hd, .ref S.cd, y], [r1], rfl, rfl, by show 1 ≤ sizeLine; rw [sizeLine_eq]; decide, fun p hp => ?_⟩
    have e1 := same_new (o := .tup [r1]) hp
    refine ⟨hd, dx, p, h, .ref S.cd, y, S.cellN, b, [r1], cs, rfl, upd_same, hl, by show 1 ≤ 1000; decide, hA.same e1, .inl ⟨S.cd, _, rfl, .inl (e1 _ _ hS.c), hS.cn⟩, hY.same e1, fun i r c h1 h2 => (hR i r c h1 h2).same e1, (kk _ e1).1, (kk _ e1).2.1, fun nh hb H' e => ⟨(kk H' (e1.trans e)).2.2.1 nh hb, fun good => ?_⟩⟩
    have e2 := e1.trans e
    refine ⟨_, rfl, _, rfl, _, rfl, by show 3 ≤ sizeLine; rw [sizeLine_eq]; decide, fun t ht => ?_⟩
    have e3 := e2.trans (same_new (o := .tup (.str "put" :: y :: [r1])) ht)
    obtain ⟨q1, q2⟩ := (kk _ e3).2.2.2 nh hb good
    exact ⟨hd, dx, h, .ref t, rfl, hA.same e3, le, few, q1, q2 t upd_same⟩
abbrev s_swap : Stmt := inClass (top 26) 3
theorem sc_swap : FnScope ["self", "cell", "value"] ["self", "cell", "value"] (defScope s_swap) := ⟨rfl, rfl, rfl, by decide +kernel, rfl, by decide +kernel, by decide +kernel⟩
theorem ok_swap {f : Addr} {fd : FuncData} (F : Fun K "swap" "Hand.swap" s_swap f fd) (T : HTxt K C) (TS : STxt K CS) (Z : Parts P w K mg base C CH CN CV n) : FnOk P w K mg base (L2.CX P w) (n + 5) f fd ["self", "cell", "value"] (spWish K C CS CH CN CV n 1 SS.cellN "swap") := by
  obtain ⟨fC, GC, mC, kC⟩ := Z.c
  obtain ⟨fA, fdA, GA, mA, kA, bA⟩ := Z.a
  refine F.okX sc_swap (fun vs H Q E h => ?_) (fun cdv A outer s H vs Q E hr h => ?_)
  · obtain ⟨hd, dx, h, S, y, b, rest, cs, rfl, hm, _⟩ := h
    show rest.length + 1 + 1 = 3
    rw [hm]
  · obtain ⟨hd, dx, h, S, y, b, rest, cs, rfl, hm, hA, hS, le, few, hY, hl, hR, kk⟩ := h
    obtain ⟨r1, rfl⟩ := List.length_eq_one_iff.mp hm
    have hr2 : Room 2 _ := hr.mono (by omega)
    refine ⟨_, pss_cons (ps_expr (pe_callR GC hr kC rfl mC (passes_call (takes_of (E := E) rfl rfl rfl rfl) fun _ _ _ _ z => z) (pa_cons (pv 0) (pa_cons (pe_fld (pe_fld (pv 0) rfl) rfl) (pa_cons (pv 1) (pa_cons (pv 2) pa_nil))))))
      (pss_one (ps_ret (pe_callS GA hr2 rfl mA kA bA (fun σ => passAt (takes_of (E := E) rfl rfl rfl rfl) σ) (pa_cons (pv 0) (pa_cons (pe_tup (pa_cons pe_str (pa_cons (pv 1) (pa_cons (pv 2) pa_nil)))) pa_nil))))), ?_⟩
    refine ⟨_, rfl, _, rfl, hd, C, dx, _, _, rfl, hA.ob, T.cl, T.shop, hF_get1, h.sh, CS, S.dx, _, _, rfl, hS.ob, TS.cl, TS.cells, sF_get1, _, rfl, _, rfl, [.ref hd, .ref S.cd, y], [r1], rfl, rfl, by show 1 ≤ sizeLine; rw [sizeLine_eq]; decide, fun p hp => ?_⟩
    have e1 := same_new (o := .tup [r1]) hp
    refine ⟨hd, dx, p, h, .ref S.cd, y, S.cellN, b, [r1], cs, rfl, upd_same, hl, by show 1 ≤ 1000; decide, hA.same e1, .inl ⟨S.cd, _, rfl, .inl (e1 _ _ hS.c), hS.cn⟩, hY.same e1, fun i r c h1 h2 => (hR i r c h1 h2).same e1, (kk _ e1).1, (kk _ e1).2.1, fun nh hb H' e => ⟨(kk H' (e1.trans e)).2.2.1 nh hb, fun good => ?_⟩⟩
    have e2 := e1.trans e
    refine ⟨_, rfl, _, rfl, _, rfl, by show 3 ≤ sizeLine; rw [sizeLine_eq]; decide, fun t ht => ?_⟩
    have e3 := e2.trans (same_new (o := .tup (.str "swap" :: y :: [r1])) ht)
    obtain ⟨q1, q2⟩ := (kk _ e3).2.2.2 nh hb good
    exact ⟨hd, dx, h, .ref t, rfl, hA.same e3, le, few, q1, q2 t upd_same⟩
abbrev s_trade : Stmt := inClass (top 26) 4
theorem sc_trade : FnScope ["self", "cell", "old", "value"] ["self", "cell", "old", "value"] (defScope s_trade) := ⟨rfl, rfl, rfl, by decide +kernel, rfl, by decide +kernel, by decide +kernel⟩
theorem ok_trade {f : Addr} {fd : FuncData} (F : Fun K "trade" "Hand.trade" s_trade f fd) (T : HTxt K C) (TS : STxt K CS) (Z : Parts P w K mg base C CH CN CV n) : FnOk P w K mg base (L2.CX P w) (n + 5) f fd ["self", "cell", "old", "value"] (spWish K C CS CH CN CV n 2 SS.cellN "trade") := by
  obtain ⟨fC, GC, mC, kC⟩ := Z.c
  obtain ⟨fA, fdA, GA, mA, kA, bA⟩ := Z.a
  refine F.okX sc_trade (fun vs H Q E h => ?_) (fun cdv A outer s H vs Q E hr h => ?_)
  · obtain ⟨hd, dx, h, S, y, b, rest, cs, rfl, hm, _⟩ := h
    show rest.length + 1 + 1 = 4
    rw [hm]
  · obtain ⟨hd, dx, h, S, y, b, rest, cs, rfl, hm, hA, hS, le, few, hY, hl, hR, kk⟩ := h
    obtain ⟨r1, r2, rfl⟩ : ∃ r1 r2, rest = [r1, r2] := by
      match rest, hm with
      | [a, b], _ => exact ⟨a, b, rfl⟩
    have hr2 : Room 2 _ := hr.mono (by omega)
    refine ⟨_, pss_cons (ps_expr (pe_callR GC hr kC rfl mC (passes_call (takes_of (E := E) rfl rfl rfl rfl) fun _ _ _ _ z => z) (pa_cons (pv 0) (pa_cons (pe_fld (pe_fld (pv 0) rfl) rfl) (pa_cons (pv 1) (pa_cons (pv 2) (pa_cons (pv 3) pa_nil)))))))
      (pss_one (ps_ret (pe_callS GA hr2 rfl mA kA bA (fun σ => passAt (takes_of (E := E) rfl rfl rfl rfl) σ) (pa_cons (pv 0) (pa_cons (pe_tup (pa_cons pe_str (pa_cons (pv 1) (pa_cons (pv 2) (pa_cons (pv 3) pa_nil))))) pa_nil))))), ?_⟩
    refine ⟨_, rfl, _, rfl, hd, C, dx, _, _, rfl, hA.ob, T.cl, T.shop, hF_get1, h.sh, CS, S.dx, _, _, rfl, hS.ob, TS.cl, TS.cells, sF_get1, _, rfl, _, rfl, _, rfl, [.ref hd, .ref S.cd, y], [r1, r2], rfl, rfl, by show 2 ≤ sizeLine; rw [sizeLine_eq]; decide, fun p hp => ?_⟩
    have e1 := same_new (o := .tup [r1, r2]) hp
    refine ⟨hd, dx, p, h, .ref S.cd, y, S.cellN, b, [r1, r2], cs, rfl, upd_same, hl, by show 2 ≤ 1000; decide, hA.same e1, .inl ⟨S.cd, _, rfl, .inl (e1 _ _ hS.c), hS.cn⟩, hY.same e1, fun i r c h1 h2 => (hR i r c h1 h2).same e1, (kk _ e1).1, (kk _ e1).2.1, fun nh hb H' e => ⟨(kk H' (e1.trans e)).2.2.1 nh hb, fun good => ?_⟩⟩
    have e2 := e1.trans e
    refine ⟨_, rfl, _, rfl, _, rfl, _, rfl, by show 4 ≤ sizeLine; rw [sizeLine_eq]; decide, fun t ht => ?_⟩
    have e3 := e2.trans (same_new (o := .tup (.str "trade" :: y :: [r1, r2])) ht)
    obtain ⟨q1, q2⟩ := (kk _ e3).2.2.2 nh hb good
    exact ⟨hd, dx, h, .ref t, rfl, hA.same e3, le, few, q1, q2 t upd_same⟩
abbrev s_until : Stmt := inClass (top 26) 5
theorem sc_until : FnScope ["self", "cell", "value"] ["self", "cell", "value"] (defScope s_until) := ⟨rfl, rfl, rfl, by decide +kernel, rfl, by decide +kernel, by decide +kernel⟩
theorem ok_until {f : Addr} {fd : FuncData} (F : Fun K "until" "Hand.until" s_until f fd) (T : HTxt K C) (TS : STxt K CS) (Z : Parts P w K mg base C CH CN CV n) : FnOk P w K mg base (L2.CX P w) (n + 5) f fd ["self", "cell", "value"] (spWish K C CS CH CN CV n 1 SS.cellN "until") := by
  obtain ⟨fC, GC, mC, kC⟩ := Z.c
  obtain ⟨fA, fdA, GA, mA, kA, bA⟩ := Z.a
  refine F.okX sc_until (fun vs H Q E h => ?_) (fun cdv A outer s H vs Q E hr h => ?_)
  · obtain ⟨hd, dx, h, S, y, b, rest, cs, rfl, hm, _⟩ := h
    show rest.length + 1 + 1 = 3
    rw [hm]
  · obtain ⟨hd, dx, h, S, y, b, rest, cs, rfl, hm, hA, hS, le, few, hY, hl, hR, kk⟩ := h
    obtain ⟨r1, rfl⟩ := List.length_eq_one_iff.mp hm
    have hr2 : Room 2 _ := hr.mono (by omega)
    refine ⟨_, pss_cons (ps_expr (pe_callR GC hr kC rfl mC (passes_call (takes_of (E := E) rfl rfl rfl rfl) fun _ _ _ _ z => z) (pa_cons (pv 0) (pa_cons (pe_fld (pe_fld (pv 0) rfl) rfl) (pa_cons (pv 1) (pa_cons (pv 2) pa_nil))))))
      (pss_one (ps_ret (pe_callS GA hr2 rfl mA kA bA (fun σ => passAt (takes_of (E := E) rfl rfl rfl rfl) σ) (pa_cons (pv 0) (pa_cons (pe_tup (pa_cons pe_str (pa_cons (pv 1) (pa_cons (pv 2) pa_nil)))) pa_nil))))), ?_⟩
    refine ⟨_, rfl, _, rfl, hd, C, dx, _, _, rfl, hA.ob, T.cl, T.shop, hF_get1, h.sh, CS, S.dx, _, _, rfl, hS.ob, TS.cl, TS.cells, sF_get1, _, rfl, _, rfl, [.ref hd, .ref S.cd, y], [r1], rfl, rfl, by show 1 ≤ sizeLine; rw [sizeLine_eq]; decide, fun p hp => ?_⟩
    have e1 := same_new (o := .tup [r1]) hp
    refine ⟨hd, dx, p, h, .ref S.cd, y, S.cellN, b, [r1], cs, rfl, upd_same, hl, by show 1 ≤ 1000; decide, hA.same e1, .inl ⟨S.cd, _, rfl, .inl (e1 _ _ hS.c), hS.cn⟩, hY.same e1, fun i r c h1 h2 => (hR i r c h1 h2).same e1, (kk _ e1).1, (kk _ e1).2.1, fun nh hb H' e => ⟨(kk H' (e1.trans e)).2.2.1 nh hb, fun good => ?_⟩⟩
    have e2 := e1.trans e
    refine ⟨_, rfl, _, rfl, _, rfl, by show 3 ≤ sizeLine; rw [sizeLine_eq]; decide, fun t ht => ?_⟩
    have e3 := e2.trans (same_new (o := .tup (.str "until" :: y :: [r1])) ht)
    obtain ⟨q1, q2⟩ := (kk _ e3).2.2.2 nh hb good
    exact ⟨hd, dx, h, .ref t, rfl, hA.same e3, le, few, q1, q2 t upd_same⟩
abbrev s_lay : Stmt := inClass (top 26) 9
theorem sc_lay : FnScope ["self", "belt", "value"] ["self", "belt", "value"] (defScope s_lay) := ⟨rfl, rfl, rfl, by decide +kernel, rfl, by decide +kernel, by decide +kernel⟩
theorem ok_lay {f : Addr} {fd : FuncData} (F : Fun K "lay" "Hand.lay" s_lay f fd) (T : HTxt K C) (TS : STxt K CS) (Z : Parts P w K mg base C CH CN CV n) : FnOk P w K mg base (L2.CX P w) (n + 5) f fd ["self", "belt", "value"] (spWish K C CS CH CN CV n 1 SS.beltN "lay") := by
  obtain ⟨fC, GC, mC, kC⟩ := Z.c
  obtain ⟨fA, fdA, GA, mA, kA, bA⟩ := Z.a
  refine F.okX sc_lay (fun vs H Q E h => ?_) (fun cdv A outer s H vs Q E hr h => ?_)
  · obtain ⟨hd, dx, h, S, y, b, rest, cs, rfl, hm, _⟩ := h
    show rest.length + 1 + 1 = 3
    rw [hm]
  · obtain ⟨hd, dx, h, S, y, b, rest, cs, rfl, hm, hA, hS, le, few, hY, hl, hR, kk⟩ := h
    obtain ⟨r1, rfl⟩ := List.length_eq_one_iff.mp hm
    have hr2 : Room 2 _ := hr.mono (by omega)
    refine ⟨_, pss_cons (ps_expr (pe_callR GC hr kC rfl mC (passes_call (takes_of (E := E) rfl rfl rfl rfl) fun _ _ _ _ z => z) (pa_cons (pv 0) (pa_cons (pe_fld (pe_fld (pv 0) rfl) rfl) (pa_cons (pv 1) (pa_cons (pv 2) pa_nil))))))
      (pss_one (ps_ret (pe_callS GA hr2 rfl mA kA bA (fun σ => passAt (takes_of (E := E) rfl rfl rfl rfl) σ) (pa_cons (pv 0) (pa_cons (pe_tup (pa_cons pe_str (pa_cons (pv 1) (pa_cons (pv 2) pa_nil)))) pa_nil))))), ?_⟩
    refine ⟨_, rfl, _, rfl, hd, C, dx, _, _, rfl, hA.ob, T.cl, T.shop, hF_get1, h.sh, CS, S.dx, _, _, rfl, hS.ob, TS.cl, TS.belts, sF_get3, _, rfl, _, rfl, [.ref hd, .ref S.bd, y], [r1], rfl, rfl, by show 1 ≤ sizeLine; rw [sizeLine_eq]; decide, fun p hp => ?_⟩
    have e1 := same_new (o := .tup [r1]) hp
    refine ⟨hd, dx, p, h, .ref S.bd, y, S.beltN, b, [r1], cs, rfl, upd_same, hl, by show 1 ≤ 1000; decide, hA.same e1, .inl ⟨S.bd, _, rfl, .inl (e1 _ _ hS.b), hS.bn⟩, hY.same e1, fun i r c h1 h2 => (hR i r c h1 h2).same e1, (kk _ e1).1, (kk _ e1).2.1, fun nh hb H' e => ⟨(kk H' (e1.trans e)).2.2.1 nh hb, fun good => ?_⟩⟩
    have e2 := e1.trans e
    refine ⟨_, rfl, _, rfl, _, rfl, by show 3 ≤ sizeLine; rw [sizeLine_eq]; decide, fun t ht => ?_⟩
    have e3 := e2.trans (same_new (o := .tup (.str "lay" :: y :: [r1])) ht)
    obtain ⟨q1, q2⟩ := (kk _ e3).2.2.2 nh hb good
    exact ⟨hd, dx, h, .ref t, rfl, hA.same e3, le, few, q1, q2 t upd_same⟩
abbrev s_fetch : Stmt := inClass (top 26) 10
theorem sc_fetch : FnScope ["self", "belt"] ["self", "belt"] (defScope s_fetch) := ⟨rfl, rfl, rfl, by decide +kernel, rfl, by decide +kernel, by decide +kernel⟩
theorem ok_fetch {f : Addr} {fd : FuncData} (F : Fun K "fetch" "Hand.fetch" s_fetch f fd) (T : HTxt K C) (TS : STxt K CS) (Z : Parts P w K mg base C CH CN CV n) : FnOk P w K mg base (L2.CX P w) (n + 5) f fd ["self", "belt"] (spWish K C CS CH CN CV n 0 SS.beltN "fetch") := by
  obtain ⟨fC, GC, mC, kC⟩ := Z.c
  obtain ⟨fA, fdA, GA, mA, kA, bA⟩ := Z.a
  refine F.okX sc_fetch (fun vs H Q E h => ?_) (fun cdv A outer s H vs Q E hr h => ?_)
  · obtain ⟨hd, dx, h, S, y, b, rest, cs, rfl, hm, _⟩ := h
    show rest.length + 1 + 1 = 2
    rw [hm]
  · obtain ⟨hd, dx, h, S, y, b, rest, cs, rfl, hm, hA, hS, le, few, hY, hl, hR, kk⟩ := h
    obtain rfl : rest = [] := List.length_eq_zero_iff.mp hm
    have hr2 : Room 2 _ := hr.mono (by omega)
    refine ⟨_, pss_cons (ps_expr (pe_callR GC hr kC rfl mC (passes_call (takes_of (E := E) rfl rfl rfl rfl) fun _ _ _ _ z => z) (pa_cons (pv 0) (pa_cons (pe_fld (pe_fld (pv 0) rfl) rfl) (pa_cons (pv 1) pa_nil)))))
      (pss_one (ps_ret (pe_callS GA hr2 rfl mA kA bA (fun σ => passAt (takes_of (E := E) rfl rfl rfl rfl) σ) (pa_cons (pv 0) (pa_cons (pe_tup (pa_cons pe_str (pa_cons (pv 1) pa_nil))) pa_nil))))), ?_⟩
    refine ⟨_, rfl, _, rfl, hd, C, dx, _, _, rfl, hA.ob, T.cl, T.shop, hF_get1, h.sh, CS, S.dx, _, _, rfl, hS.ob, TS.cl, TS.belts, sF_get3, _, rfl, [.ref hd, .ref S.bd, y], [], rfl, rfl, by show 0 ≤ sizeLine; rw [sizeLine_eq]; decide, fun p hp => ?_⟩
    have e1 := same_new (o := .tup []) hp
    refine ⟨hd, dx, p, h, .ref S.bd, y, S.beltN, b, [], cs, rfl, upd_same, hl, by show 0 ≤ 1000; decide, hA.same e1, .inl ⟨S.bd, _, rfl, .inl (e1 _ _ hS.b), hS.bn⟩, hY.same e1, fun i r c h1 h2 => (hR i r c h1 h2).same e1, (kk _ e1).1, (kk _ e1).2.1, fun nh hb H' e => ⟨(kk H' (e1.trans e)).2.2.1 nh hb, fun good => ?_⟩⟩
    have e2 := e1.trans e
    refine ⟨_, rfl, _, rfl, by show 2 ≤ sizeLine; rw [sizeLine_eq]; decide, fun t ht => ?_⟩
    have e3 := e2.trans (same_new (o := .tup (.str "fetch" :: y :: [])) ht)
    obtain ⟨q1, q2⟩ := (kk _ e3).2.2.2 nh hb good
    exact ⟨hd, dx, h, .ref t, rfl, hA.same e3, le, few, q1, q2 t upd_same⟩
end
end TW
namespace TW
open PySem PySem.Spec PyProof.Rows L2
abbrev sHI : Stmt := inClass (top 26) 0
abbrev s_rest : Stmt := inClass (top 26) 11
abbrev s_say : Stmt := inClass (top 26) 12
abbrev s_fail : Stmt := inClass (top 26) 13
/-- a new hand: nothing asked as yet -/
def hs0 (me : Int) (sh an : Addr) (ans : List V) (md wl : Addr) : HS := ⟨me, sh, an, ans, 0, md, [], wl, [], .non, .non, false⟩
def spHI (K : PySem.W.Frag) (C : Addr) : Sp := fun vs H Q _ => ∃ (hd dx sh an : Addr) (me : Int) (ans : List V), vs = [.ref hd, .ref sh, .int me, .ref an] ∧ H hd = some (.ins C dx []) ∧ SqT K H an ans ∧
  ∀ (md wl : Addr) (H' : Hp), H md = none → H wl = none → (∀ b o, H b = some o → b ≠ hd → H' b = some o) → HandAt K C H' hd dx (hs0 me sh an ans md wl) → Q .non H'
def spSay (K : PySem.W.Frag) (C CH CV : Addr) (n : Nat) : Sp := fun vs H Q E => ∃ (hd dx : Addr) (h : HS) (y : V) (c : Bool), vs = [.ref hd, y] ∧ HandAt K C H hd dx h ∧ h.words.length ≤ 1000 ∧ Vn K H n y c ∧
  (h.halted = true → E (.ref CH) none H) ∧ ∀ H', Same H H' → (h.halted = false → c = false → EX E CV "value" y H') ∧ (h.halted = false → c = true → Q .non (upd H' h.wl (.lst (h.words ++ [y]))))
def spFail (K : PySem.W.Frag) (C CH CV : Addr) (n : Nat) : Sp := fun vs H Q E => ∃ (hd dx : Addr) (h : HS) (y : V) (c : Bool), vs = [.ref hd, y] ∧ HandAt K C H hd dx h ∧ Vn K H n y c ∧
  (h.halted = true → E (.ref CH) none H) ∧ ∀ H', Same H H' → (h.halted = false → c = false → EX E CV "value" y H') ∧
    ∀ t, H' t = some (.tup [.str "failed", y]) → h.halted = false → c = true → E (.ref CH) none (upd H' hd (.ins C dx { h with fin := .ref t, halted := true }.fs))
def spRest (K : PySem.W.Frag) (C CH : Addr) : Sp := fun vs H Q E => ∃ (hd dx : Addr) (h : HS), vs = [.ref hd] ∧ HandAt K C H hd dx h ∧ h.asked ≤ h.ans.length ∧ h.ans.length ≤ 1000 ∧ (h.halted = true → E (.ref CH) none H) ∧
  ∀ H', Same H H' → (h.halted = false → ∀ v, h.ans[h.asked]? = some v → Q v (upd H' hd (.ins C dx { h with asked := h.asked + 1 }.fs))) ∧
    ∀ t, H' t = some (.tup [.str "rest"]) → h.halted = false → h.asked = h.ans.length → E (.ref CH) none (upd H' hd (.ins C dx { h with pend := .ref t, halted := true }.fs))
section
variable {P : Program} {w : World} {K : PySem.W.Frag} {mg : Str → Option Value} {base : Heap} {C CS CH CN CV : Addr} {n : Nat}
theorem scHI : FnScope ["self", "shop", "me", "answers"] ["self", "shop", "me", "answers"] (defScope sHI) := ⟨rfl, rfl, rfl, by decide +kernel, rfl, by decide +kernel, by decide +kernel⟩
theorem ok_HI {f : Addr} {fd : FuncData} (F : Fun K "__init__" "Hand.__init__" sHI f fd) (T : HTxt K C) : FnOk P w K mg base CX0 1 f fd ["self", "shop", "me", "answers"] (spHI K C) := by
  refine F.ok scHI (fun vs H Q E h => ?_) (fun cdv A outer s H vs Q E hr h => ?_)
  · obtain ⟨hd, dx, sh, an, me, ans, rfl, _⟩ := h
    rfl
  · obtain ⟨hd, dx, sh, an, me, ans, rfl, ho, ha, k⟩ := h
    refine ⟨_, pss_cons (ps_fld (pv 0) (pv 2) rfl) (pss_cons (ps_fld (pv 0) (pv 1) rfl) (pss_cons (ps_fld (pv 0) (pv 3) rfl) (pss_cons (ps_fld (pv 0) pe_int rfl) (pss_cons (ps_fld (pv 0) pe_dnewK rfl) (pss_cons (ps_fld (pv 0) (pe_lst pa_nil) rfl)
      (pss_cons (ps_fld (pv 0) pe_non rfl) (pss_cons (ps_fld (pv 0) pe_non rfl) (pss_one (ps_fld (pv 0) pe_bl rfl))))))))), ?_⟩
    refine ⟨_, rfl, _, rfl, hd, C, dx, _, rfl, ho, T.cl, T.me, (by show 0 < 1000; decide), ?_⟩
    rw [hF_make0]
    refine ⟨_, rfl, _, rfl, hd, C, dx, _, rfl, upd_same, T.cl, T.shop, (by show 1 < 1000; decide), ?_⟩
    rw [hF_make1, upd_upd]
    refine ⟨_, rfl, _, rfl, hd, C, dx, _, rfl, upd_same, T.cl, T.answers, (by show 2 < 1000; decide), ?_⟩
    rw [hF_make2, upd_upd]
    refine ⟨_, rfl, hd, C, dx, _, rfl, upd_same, T.cl, T.asked, (by show 3 < 1000; decide), ?_⟩
    rw [hF_make3, upd_upd]
    intro md hmd
    have n1 : md ≠ hd := (ne_of_none upd_same hmd).symm
    refine ⟨_, rfl, hd, C, dx, _, rfl, by rw [upd_ne n1.symm]; exact upd_same, T.cl, T.mine, (by show 4 < 1000; decide), ?_⟩
    rw [hF_make4]
    refine ⟨by show 0 ≤ sizeLine; exact Nat.zero_le _, fun wl hwl => ?_⟩
    have n2 : wl ≠ hd := (ne_of_none upd_same hwl).symm
    have n3 : wl ≠ md := by
      intro z
      rw [z, upd_ne n1, upd_same] at hwl
      cases hwl
    refine ⟨_, rfl, hd, C, dx, _, rfl, by rw [upd_ne n2.symm]; exact upd_same, T.cl, T.words, (by show 5 < 1000; decide), ?_⟩
    rw [hF_make5]
    refine ⟨_, rfl, hd, C, dx, _, rfl, upd_same, T.cl, T.pending, (by show 6 < 1000; decide), ?_⟩
    rw [hF_make6, upd_upd]
    refine ⟨_, rfl, hd, C, dx, _, rfl, upd_same, T.cl, T.end_, (by show 7 < 1000; decide), ?_⟩
    rw [hF_make7, upd_upd]
    refine ⟨_, rfl, hd, C, dx, _, rfl, upd_same, T.cl, T.halted, (by show 8 < 1000; decide), ?_⟩
    rw [hF_make8, upd_upd]
    have m1 : H md = none := by
      rw [upd_ne n1] at hmd
      exact hmd
    have m2 : H wl = none := by
      rw [upd_ne n2, upd_ne n3, upd_ne n2] at hwl
      exact hwl
    have old : ∀ b o, H b = some o → b ≠ hd → upd (upd (upd (upd (upd H hd (.ins C dx [("me", .int me), ("shop", .ref sh), ("answers", .ref an), ("asked", .int 0)])) md (.dK [])) hd (.ins C dx [("me", .int me), ("shop", .ref sh), ("answers", .ref an), ("asked", .int 0), ("mine", .ref md)])) wl (.lst [])) hd
        (.ins C dx (hs0 me sh an ans md wl).fs) b = some o := fun b o e ne => by
      rw [upd_ne ne, upd_ne (ne_of_none e m2), upd_ne ne, upd_ne (ne_of_none e m1), upd_ne ne]
      exact e
    refine k md wl _ m1 m2 old ⟨upd_same, ?_, ?_, ?_⟩
    · rcases ha with (z | ⟨o, z⟩) | z
      · exact .inl (.inl (old _ _ z (ne_of z ho (by intro y; cases y))))
      · exact .inl (.inr ⟨o, old _ _ z (ne_of z ho (by intro y; cases y))⟩)
      · exact .inr z
    · show upd _ hd _ md = some (.dK [])
      rw [upd_ne n1, upd_ne n3.symm, upd_ne n1]
      exact upd_same
    · show upd _ hd _ wl = some (.lst [])
      rw [upd_ne n2]
      exact upd_same
end
end TW
namespace TW
open PySem PySem.Spec PyProof.Rows L2
/-- the short defs that a hand's methods call -/
structure Shorts (P : Program) (w : World) (K : PySem.W.Frag) (mg : Str → Option Value) (base : Heap) (C CH CV : Addr) (n : Nat) : Prop where
  g : ∃ f fd, FnOk P w K mg base (L2.CX P w) 1 f fd ["hand"] (spGoing K C CH) ∧ mg "check_going" = some (.ref f) ∧ PySem.W.keepIn K (.ref f) = true ∧ Binds K fd ["hand"] []
  v : ∃ f fd, FnOk P w K mg base (L2.CX P w) (n + 3) f fd ["given"] (spCkV K CV n) ∧ mg "check_value" = some (.ref f) ∧ PySem.W.keepIn K (.ref f) = true ∧ Binds K fd ["given"] []
  a : ∃ f fd, FnOk P w K mg base (L2.CX P w) 2 f fd ["hand", "wish"] (spAsk K C CH) ∧ mg "ask" = some (.ref f) ∧ PySem.W.keepIn K (.ref f) = true ∧ Binds K fd ["hand", "wish"] []
  h : ∃ f fd, FnOk P w K mg base (L2.CX P w) 1 f fd ["hand"] (spHalt K C CH) ∧ mg "halt" = some (.ref f) ∧ PySem.W.keepIn K (.ref f) = true ∧ Binds K fd ["hand"] []
section
variable {P : Program} {w : World} {K : PySem.W.Frag} {mg : Str → Option Value} {base : Heap} {C CS CH CN CV : Addr} {n : Nat}
theorem sc_say : FnScope ["self", "value"] ["self", "value"] (defScope s_say) := ⟨rfl, rfl, rfl, by decide +kernel, rfl, by decide +kernel, by decide +kernel⟩
theorem ok_say {f : Addr} {fd : FuncData} (F : Fun K "say" "Hand.say" s_say f fd) (T : HTxt K C) (Z : Shorts P w K mg base C CH CV n) : FnOk P w K mg base (L2.CX P w) (n + 4) f fd ["self", "value"] (spSay K C CH CV n) := by
  obtain ⟨fG, fdG, GG, mG, kG, bG⟩ := Z.g
  obtain ⟨fV, fdV, GV, mV, kV, bV⟩ := Z.v
  refine F.okX sc_say (fun vs H Q E h => ?_) (fun cdv A outer s H vs Q E hr h => ?_)
  · obtain ⟨hd, dx, h, y, c, rfl, _⟩ := h
    rfl
  · obtain ⟨hd, dx, h, y, c, rfl, hA, few, hV, k1, k2⟩ := h
    have hr1 : Room 1 _ := hr.mono (by omega)
    refine ⟨_, pss_cons (ps_expr (pe_callS GG hr1 rfl mG kG bG (fun σ => passAt (takes_of (E := E) rfl rfl rfl rfl) σ) (pa_cons (pv 0) pa_nil)))
      (pss_cons (ps_expr (pe_callS GV hr rfl mV kV bV (fun σ => passAt (takes_of (E := E) rfl rfl rfl rfl) σ) (pa_cons (pv 1) pa_nil)))
      (pss_one (ps_expr (pe_bm PySem.F.plainAttrs_list PySem.F.slot_list_append PySem.F.type_list_append mt_append (pe_fld (pv 0) rfl) (pa_cons (pv 1) pa_nil))))), ?_⟩
    refine ⟨_, rfl, hd, dx, h, rfl, hA, fun nh => ?_, fun hh => k1 hh⟩
    refine ⟨_, rfl, y, c, rfl, hV, fun H' e => ⟨fun hc => ?_, fun hc => (k2 H' e).1 nh hc⟩⟩
    have hB := hA.same e
    refine ⟨_, rfl, hd, C, dx, _, _, rfl, hB.ob, T.cl, T.words, hF_get5, .inl ⟨rfl, _, SqL.of hB.w⟩, _, rfl, h.wl, _, _, rfl, rfl, hB.w, ?_, (k2 H' e).2 nh hc⟩
    rw [sizeLine_eq]
    omega
theorem sc_fail : FnScope ["self", "value"] ["self", "value"] (defScope s_fail) := ⟨rfl, rfl, rfl, by decide +kernel, rfl, by decide +kernel, by decide +kernel⟩
theorem sc_rest : FnScope ["self"] ["self"] (defScope s_rest) := ⟨rfl, rfl, rfl, by decide +kernel, rfl, by decide +kernel, by decide +kernel⟩
theorem ok_rest {f : Addr} {fd : FuncData} (F : Fun K "rest" "Hand.rest" s_rest f fd) (T : HTxt K C) (Z : Shorts P w K mg base C CH CV n) : FnOk P w K mg base (L2.CX P w) 3 f fd ["self"] (spRest K C CH) := by
  obtain ⟨fG, fdG, GG, mG, kG, bG⟩ := Z.g
  obtain ⟨fA, fdA, GA, mA, kA, bA⟩ := Z.a
  refine F.okX sc_rest (fun vs H Q E h => ?_) (fun cdv A outer s H vs Q E hr h => ?_)
  · obtain ⟨hd, dx, h, rfl, _⟩ := h
    rfl
  · obtain ⟨hd, dx, h, rfl, hA, le, few, k1, k2⟩ := h
    have hr1 : Room 1 _ := hr.mono (by omega)
    refine ⟨_, pss_cons (ps_expr (pe_callS GG hr1 rfl mG kG bG (fun σ => passAt (takes_of (E := E) rfl rfl rfl rfl) σ) (pa_cons (pv 0) pa_nil)))
      (pss_one (ps_ret (pe_callS GA hr rfl mA kA bA (fun σ => passAt (takes_of (E := E) rfl rfl rfl rfl) σ) (pa_cons (pv 0) (pa_cons (pe_tup (pa_cons pe_str pa_nil)) pa_nil))))), ?_⟩
    refine ⟨_, rfl, hd, dx, h, rfl, hA, fun nh => ?_, fun hh => k1 hh⟩
    refine ⟨_, rfl, by show 1 ≤ sizeLine; rw [sizeLine_eq]; decide, fun t ht => ?_⟩
    have e := same_new (o := .tup [.str "rest"]) ht
    exact ⟨hd, dx, h, .ref t, rfl, hA.same e, le, few, (k2 _ e).1 nh, (k2 _ e).2 t upd_same nh⟩
end
end TW
namespace TW
open PySem PySem.Spec PyProof.Rows L2
theorem tF_n0_1 : ¬ (("cells" : Str) = "holders") := by decide +kernel
theorem tF_n0_2 : ¬ (("cells" : Str) = "rows") := by decide +kernel
theorem tF_n0_3 : ¬ (("cells" : Str) = "sizes") := by decide +kernel
theorem tF_n1_0 : ¬ (("holders" : Str) = "cells") := by decide +kernel
theorem tF_n1_2 : ¬ (("holders" : Str) = "rows") := by decide +kernel
theorem tF_n1_3 : ¬ (("holders" : Str) = "sizes") := by decide +kernel
theorem tF_n2_0 : ¬ (("rows" : Str) = "cells") := by decide +kernel
theorem tF_n2_1 : ¬ (("rows" : Str) = "holders") := by decide +kernel
theorem tF_n2_3 : ¬ (("rows" : Str) = "sizes") := by decide +kernel
theorem tF_n3_0 : ¬ (("sizes" : Str) = "cells") := by decide +kernel
theorem tF_n3_1 : ¬ (("sizes" : Str) = "holders") := by decide +kernel
theorem tF_n3_2 : ¬ (("sizes" : Str) = "rows") := by decide +kernel
/-- the attributes of a tF, in the order in which __init__ stores them -/
def tF (v0 v1 v2 v3 : V) : List (Str × V) := [("cells", v0), ("holders", v1), ("rows", v2), ("sizes", v3)]
theorem tF_get0 {v0 v1 v2 v3 : V} : (tF v0 v1 v2 v3).lookup ("cells" : Str) = some v0 := by
  unfold tF
  rw [lookup_put, if_pos rfl]
theorem tF_put0 {v0 v1 v2 v3 z : V} : putF "cells" z (tF v0 v1 v2 v3) = tF z v1 v2 v3 := by
  unfold tF
  simp only [putF, if_true]
theorem tF_get1 {v0 v1 v2 v3 : V} : (tF v0 v1 v2 v3).lookup ("holders" : Str) = some v1 := by
  unfold tF
  rw [lookup_put, if_neg tF_n1_0, lookup_put, if_pos rfl]
theorem tF_put1 {v0 v1 v2 v3 z : V} : putF "holders" z (tF v0 v1 v2 v3) = tF v0 z v2 v3 := by
  unfold tF
  simp only [putF, if_neg tF_n0_1, if_true]
theorem tF_get2 {v0 v1 v2 v3 : V} : (tF v0 v1 v2 v3).lookup ("rows" : Str) = some v2 := by
  unfold tF
  rw [lookup_put, if_neg tF_n2_0, lookup_put, if_neg tF_n2_1, lookup_put, if_pos rfl]
theorem tF_put2 {v0 v1 v2 v3 z : V} : putF "rows" z (tF v0 v1 v2 v3) = tF v0 v1 z v3 := by
  unfold tF
  simp only [putF, if_neg tF_n0_2, if_neg tF_n1_2, if_true]
theorem tF_get3 {v0 v1 v2 v3 : V} : (tF v0 v1 v2 v3).lookup ("sizes" : Str) = some v3 := by
  unfold tF
  rw [lookup_put, if_neg tF_n3_0, lookup_put, if_neg tF_n3_1, lookup_put, if_neg tF_n3_2, lookup_put, if_pos rfl]
theorem tF_put3 {v0 v1 v2 v3 z : V} : putF "sizes" z (tF v0 v1 v2 v3) = tF v0 v1 v2 z := by
  unfold tF
  simp only [putF, if_neg tF_n0_3, if_neg tF_n1_3, if_neg tF_n2_3, if_true]
theorem tF_make0 {v0 : V} : putF "cells" v0 ([] : List (Str × V)) = ([("cells", v0)] : List (Str × V)) := rfl
theorem tF_make1 {v0 v1 : V} : putF "holders" v1 ([("cells", v0)] : List (Str × V)) = ([("cells", v0), ("holders", v1)] : List (Str × V)) := by
  simp only [putF, if_neg tF_n0_1, if_true]
theorem tF_make2 {v0 v1 v2 : V} : putF "rows" v2 ([("cells", v0), ("holders", v1)] : List (Str × V)) = ([("cells", v0), ("holders", v1), ("rows", v2)] : List (Str × V)) := by
  simp only [putF, if_neg tF_n0_2, if_neg tF_n1_2, if_true]
theorem tF_make3 {v0 v1 v2 v3 : V} : putF "sizes" v3 ([("cells", v0), ("holders", v1), ("rows", v2)] : List (Str × V)) = ([("cells", v0), ("holders", v1), ("rows", v2), ("sizes", v3)] : List (Str × V)) := by
  simp only [putF, if_neg tF_n0_3, if_neg tF_n1_3, if_neg tF_n2_3, if_true]
theorem tF_no {v0 v1 v2 v3 : V} {m : Str} (h0 : ¬ m = ("cells" : Str)) (h1 : ¬ m = ("holders" : Str)) (h2 : ¬ m = ("rows" : Str)) (h3 : ¬ m = ("sizes" : Str)) : (tF v0 v1 v2 v3).lookup m = none := by
  unfold tF
  rw [lookup_put, if_neg h0, lookup_put, if_neg h1, lookup_put, if_neg h2, lookup_put, if_neg h3]
  rfl

/-- the things of a run -/
structure TS where
  dx : Addr
  cd : Addr
  cells : List (Key × V)
  hd : Addr
  holders : List (Key × V)
  rd : Addr
  rows : List (Key × V)
  sd : Addr
  sizes : List (Key × V)
structure ThingsAt (K : PySem.W.Frag) (C : Addr) (H : Hp) (th : Addr) (T : TS) : Prop where
  ob : H th = some (.ins C T.dx (tF (.ref T.cd) (.ref T.hd) (.ref T.rd) (.ref T.sd)))
  c : H T.cd = some (.dK T.cells)
  h : H T.hd = some (.dK T.holders)
  r : H T.rd = some (.dK T.rows)
  s : H T.sd = some (.dK T.sizes)
structure TTxt (K : PySem.W.Frag) (C : Addr) : Prop where
  cl : Cls K C
  cells : NoAttr K C "cells"
  holders : NoAttr K C "holders"
  rows : NoAttr K C "rows"
  sizes : NoAttr K C "sizes"
/-- a step of a wish (word, s, ..) upon the things -/
def spStep (K : PySem.W.Frag) (C : Addr) (does : TS → Int → Str → List V → Hp → VK → Prop) : Sp := fun vs H Q _ => ∃ (th wt : Addr) (k : Int) (T : TS) (word s : Str) (rest : List V), vs = [.ref th, .int k, .ref wt] ∧ ThingsAt K C H th T ∧ SqT K H wt (.str word :: .str s :: rest) ∧ does T k s rest H Q
abbrev dLook : TS → Int → Str → List V → Hp → VK → Prop := fun T _ s _ H Q => ∃ v, valV T.cells (Sum.inr s) = some v ∧ Q v H
abbrev dPut : TS → Int → Str → List V → Hp → VK → Prop := fun T _ s rest H Q => ∃ x l, rest = x :: l ∧ T.cells.length < sizeLine ∧ Q .non (upd H T.cd (.dK (putK T.cells (Sum.inr s) x)))
abbrev dSwap : TS → Int → Str → List V → Hp → VK → Prop := fun T _ s rest H Q => ∃ x l v, rest = x :: l ∧ valV T.cells (Sum.inr s) = some v ∧ T.cells.length < sizeLine ∧ Q v (upd H T.cd (.dK (putK T.cells (Sum.inr s) x)))
abbrev dTake : TS → Int → Str → List V → Hp → VK → Prop := fun T k s _ H Q => T.holders.length < sizeLine ∧ Q .non (upd H T.hd (.dK (putK T.holders (Sum.inr s) (.int k))))
abbrev dGive : TS → Int → Str → List V → Hp → VK → Prop := fun T _ s _ H Q => T.holders.length < sizeLine ∧ Q .non (upd H T.hd (.dK (putK T.holders (Sum.inr s) .non)))
abbrev dReach : TS → Int → Str → List V → Hp → VK → Prop := fun T k s _ H Q => ∃ v, valV T.holders (Sum.inr s) = some v ∧ T.holders.length < sizeLine ∧ (v ≠ .non → Q (.bl false) H) ∧ (v = .non → Q (.bl true) (upd H T.hd (.dK (putK T.holders (Sum.inr s) (.int k)))))
section
variable {P : Program} {w : World} {K : PySem.W.Frag} {mg : Str → Option Value} {base : Heap} {C : Addr}
abbrev s_do_look : Stmt := top 38
theorem sc_do_look : FnScope ["things", "k", "wish"] ["things", "k", "wish"] (defScope s_do_look) := ⟨rfl, rfl, rfl, by decide +kernel, rfl, by decide +kernel, by decide +kernel⟩
theorem ok_do_look {f : Addr} {fd : FuncData} (F : Fun K "do_look" "do_look" s_do_look f fd) (X : TTxt K C) : FnOk P w K mg base CX0 1 f fd ["things", "k", "wish"] (spStep K C dLook) := by
  refine F.ok sc_do_look (fun vs H Q E h => ?_) (fun cdv A outer s H vs Q E hr h => ?_)
  · obtain ⟨th, wt, k, T, word, nm, rest, rfl, _⟩ := h
    rfl
  · obtain ⟨th, wt, k, T, word, nm, rest, rfl, hT, hW, hq⟩ := h
    have hu := hu_of hr
    obtain ⟨v, e, hq⟩ := hq
    refine ⟨_, pss_one (ps_ret (pe_dget hu (pe_fld (pv 0) rfl) (pe_ix ix_tup (pv 2) pe_int (fun _ _ => rfl)) (fun _ _ => rfl))), ?_⟩
    exact ⟨_, rfl, th, C, T.dx, _, _, rfl, hT.ob, X.cl, X.cells, tF_get0, _, rfl, wt, _, _, _, rfl, rfl, hW, atI_nat (j := 1) rfl, T.cd, v, rfl, e ▸ DGet.k (k := Sum.inr nm) hT.c, hq⟩
abbrev s_do_put : Stmt := top 39
theorem sc_do_put : FnScope ["things", "k", "wish"] ["things", "k", "wish"] (defScope s_do_put) := ⟨rfl, rfl, rfl, by decide +kernel, rfl, by decide +kernel, by decide +kernel⟩
theorem ok_do_put {f : Addr} {fd : FuncData} (F : Fun K "do_put" "do_put" s_do_put f fd) (X : TTxt K C) : FnOk P w K mg base CX0 1 f fd ["things", "k", "wish"] (spStep K C dPut) := by
  refine F.ok sc_do_put (fun vs H Q E h => ?_) (fun cdv A outer s H vs Q E hr h => ?_)
  · obtain ⟨th, wt, k, T, word, nm, rest, rfl, _⟩ := h
    rfl
  · obtain ⟨th, wt, k, T, word, nm, rest, rfl, hT, hW, hq⟩ := h
    have hu := hu_of hr
    obtain ⟨x, l, rfl, few, hq⟩ := hq
    refine ⟨_, pss_one (ps_dput hu (pe_fld (pv 0) rfl) (pe_ix ix_tup (pv 2) pe_int (fun _ _ => rfl)) (pe_ix ix_tup (pv 2) pe_int (fun _ _ => rfl)) rfl), ?_⟩
    exact ⟨_, rfl, wt, _, _, _, rfl, rfl, hW, atI_nat (j := 2) rfl, _, rfl, th, C, T.dx, _, _, rfl, hT.ob, X.cl, X.cells, tF_get0, _, rfl, wt, _, _, _, rfl, rfl, hW, atI_nat (j := 1) rfl, T.cd, _, rfl, DPut.k (k := Sum.inr nm) hT.c few, hq⟩
abbrev s_do_swap : Stmt := top 40
theorem sc_do_swap : FnScope ["things", "k", "wish", "was"] ["things", "k", "wish"] (defScope s_do_swap) := ⟨rfl, rfl, rfl, by decide +kernel, rfl, by decide +kernel, by decide +kernel⟩
theorem ok_do_swap {f : Addr} {fd : FuncData} (F : Fun K "do_swap" "do_swap" s_do_swap f fd) (X : TTxt K C) : FnOk P w K mg base CX0 1 f fd ["things", "k", "wish"] (spStep K C dSwap) := by
  refine F.ok sc_do_swap (fun vs H Q E h => ?_) (fun cdv A outer s H vs Q E hr h => ?_)
  · obtain ⟨th, wt, k, T, word, nm, rest, rfl, _⟩ := h
    rfl
  · obtain ⟨th, wt, k, T, word, nm, rest, rfl, hT, hW, hq⟩ := h
    have hu := hu_of hr
    obtain ⟨x, l, v, rfl, e, few, hq⟩ := hq
    refine ⟨_, pss_cons (ps_set (i := 3) sc_do_swap.nd rfl (.inl rfl) (pe_dget hu (pe_fld (pv 0) rfl) (pe_ix ix_tup (pv 2) pe_int (fun _ _ => rfl)) (fun _ _ => rfl))) (pss_cons (ps_dput hu (pe_fld (pv 0) rfl) (pe_ix ix_tup (pv 2) pe_int (fun _ _ => rfl)) (pe_ix ix_tup (pv 2) pe_int (fun _ _ => rfl)) rfl) (pss_one (ps_ret (pv 3)))), ?_⟩
    refine ⟨_, rfl, th, C, T.dx, _, _, rfl, hT.ob, X.cl, X.cells, tF_get0, _, rfl, wt, _, _, _, rfl, rfl, hW, atI_nat (j := 1) rfl, T.cd, v, rfl, e ▸ DGet.k (k := Sum.inr nm) hT.c, ?_⟩
    exact ⟨_, rfl, wt, _, _, _, rfl, rfl, hW, atI_nat (j := 2) rfl, _, rfl, th, C, T.dx, _, _, rfl, hT.ob, X.cl, X.cells, tF_get0, _, rfl, wt, _, _, _, rfl, rfl, hW, atI_nat (j := 1) rfl, T.cd, _, rfl, DPut.k (k := Sum.inr nm) hT.c few, _, rfl, hq⟩
abbrev s_do_take : Stmt := top 42
theorem sc_do_take : FnScope ["things", "k", "wish"] ["things", "k", "wish"] (defScope s_do_take) := ⟨rfl, rfl, rfl, by decide +kernel, rfl, by decide +kernel, by decide +kernel⟩
theorem ok_do_take {f : Addr} {fd : FuncData} (F : Fun K "do_take" "do_take" s_do_take f fd) (X : TTxt K C) : FnOk P w K mg base CX0 1 f fd ["things", "k", "wish"] (spStep K C dTake) := by
  refine F.ok sc_do_take (fun vs H Q E h => ?_) (fun cdv A outer s H vs Q E hr h => ?_)
  · obtain ⟨th, wt, k, T, word, nm, rest, rfl, _⟩ := h
    rfl
  · obtain ⟨th, wt, k, T, word, nm, rest, rfl, hT, hW, hq⟩ := h
    have hu := hu_of hr
    obtain ⟨few, hq⟩ := hq
    refine ⟨_, pss_one (ps_dput hu (pe_fld (pv 0) rfl) (pe_ix ix_tup (pv 2) pe_int (fun _ _ => rfl)) (pv 1) rfl), ?_⟩
    exact ⟨_, rfl, _, rfl, th, C, T.dx, _, _, rfl, hT.ob, X.cl, X.holders, tF_get1, _, rfl, wt, _, _, _, rfl, rfl, hW, atI_nat (j := 1) rfl, T.hd, _, rfl, DPut.k (k := Sum.inr nm) hT.h few, hq⟩
abbrev s_do_give : Stmt := top 43
theorem sc_do_give : FnScope ["things", "k", "wish"] ["things", "k", "wish"] (defScope s_do_give) := ⟨rfl, rfl, rfl, by decide +kernel, rfl, by decide +kernel, by decide +kernel⟩
theorem ok_do_give {f : Addr} {fd : FuncData} (F : Fun K "do_give" "do_give" s_do_give f fd) (X : TTxt K C) : FnOk P w K mg base CX0 1 f fd ["things", "k", "wish"] (spStep K C dGive) := by
  refine F.ok sc_do_give (fun vs H Q E h => ?_) (fun cdv A outer s H vs Q E hr h => ?_)
  · obtain ⟨th, wt, k, T, word, nm, rest, rfl, _⟩ := h
    rfl
  · obtain ⟨th, wt, k, T, word, nm, rest, rfl, hT, hW, hq⟩ := h
    have hu := hu_of hr
    obtain ⟨few, hq⟩ := hq
    refine ⟨_, pss_one (ps_dput hu (pe_fld (pv 0) rfl) (pe_ix ix_tup (pv 2) pe_int (fun _ _ => rfl)) pe_non rfl), ?_⟩
    exact ⟨_, rfl, th, C, T.dx, _, _, rfl, hT.ob, X.cl, X.holders, tF_get1, _, rfl, wt, _, _, _, rfl, rfl, hW, atI_nat (j := 1) rfl, T.hd, _, rfl, DPut.k (k := Sum.inr nm) hT.h few, hq⟩
abbrev s_do_reach : Stmt := top 44
theorem sc_do_reach : FnScope ["things", "k", "wish"] ["things", "k", "wish"] (defScope s_do_reach) := ⟨rfl, rfl, rfl, by decide +kernel, rfl, by decide +kernel, by decide +kernel⟩
theorem ok_do_reach {f : Addr} {fd : FuncData} (F : Fun K "do_reach" "do_reach" s_do_reach f fd) (X : TTxt K C) : FnOk P w K mg base CX0 1 f fd ["things", "k", "wish"] (spStep K C dReach) := by
  refine F.ok sc_do_reach (fun vs H Q E h => ?_) (fun cdv A outer s H vs Q E hr h => ?_)
  · obtain ⟨th, wt, k, T, word, nm, rest, rfl, _⟩ := h
    rfl
  · obtain ⟨th, wt, k, T, word, nm, rest, rfl, hT, hW, hq⟩ := h
    have hu := hu_of hr
    obtain ⟨v, e, few, q1, q2⟩ := hq
    refine ⟨_, pss_cons (ps_if (pt_cmpR op_notN (pe_dget hu (pe_fld (pv 0) rfl) (pe_ix ix_tup (pv 2) pe_int (fun _ _ => rfl)) (fun _ _ => rfl)) pe_non (nomark _)) (pss_one (ps_ret pe_bl)) pss_nil) (pss_cons (ps_dput hu (pe_fld (pv 0) rfl) (pe_ix ix_tup (pv 2) pe_int (fun _ _ => rfl)) (pv 1) rfl) (pss_one (ps_ret pe_bl))), ?_⟩
    refine ⟨_, rfl, th, C, T.dx, _, _, rfl, hT.ob, X.cl, X.holders, tF_get1, _, rfl, wt, _, _, _, rfl, rfl, hW, atI_nat (j := 1) rfl, T.hd, v, rfl, e ▸ DGet.k (k := Sum.inr nm) hT.h, rfl, _, rfl, ?_⟩
    by_cases c : v = .non
    · rw [decide_eq_true c]
      refine iteF ?_
      exact ⟨_, rfl, _, rfl, th, C, T.dx, _, _, rfl, hT.ob, X.cl, X.holders, tF_get1, _, rfl, wt, _, _, _, rfl, rfl, hW, atI_nat (j := 1) rfl, T.hd, _, rfl, DPut.k (k := Sum.inr nm) hT.h few, q2 c⟩
    · rw [decide_eq_false c]
      exact iteT (q1 c)
end
end TW
namespace L2
open PySem PySem.Spec PyProof.Rows
/-- the frame of a lambda that has captured the cells cl -/
abbrev cloEnv (q : Str) (scope : Scope) (L f c' : Addr) (cl : List (Str × Addr)) : Env := PySem.W.envX q scope L f (.ref c') cl
def cloCx (P : Program) (w : World) (K : PySem.W.Frag) (mg : Str → Option Value) (base : Heap) (A : Around) (outer : List Env) (s : Shared) (H : Hp) (E : XK) (q : Str) (scope : Scope) (f c' : Addr) (cl : List (Str × Addr)) (N : List Str) : Cx where
  prog := P
  w := w
  K := K
  mg := mg
  base := base
  A := A.deeper (cloEnv q scope s.heap.objs.size f c' cl)
  N := N
  s_0 := s
  H_0 := H
  env := cloEnv q scope s.heap.objs.size f c' cl
  outer := outer
  stack := cloEnv q scope s.heap.objs.size f c' cl :: outer
  ex := []
  fn := fun _ => false
  calm := true
  pn := []
  xe := fun e s' => wpAny (model P w) (A.deeper (cloEnv q scope s.heap.objs.size f c' cl)) (leaving (cloEnv q scope s.heap.objs.size f c' cl) e) (fun _ s'' => L2.CX P w outer H s E e s'') (fun e' s'' => L2.CX P w outer H s E e' s'') s'
/-- a lambda of one parameter y, as it stands in base with what it has captured -/
structure CloAt (base : Heap) (f c' : Addr) (q : Str) (params : Arguments) (body : Expr) (scope : Scope) (cl : List (Str × Addr)) (y : Str) (xs : List Str) (vs : List V) : Prop where
  fn : ∃ pm ctv, base.get? f = some (PySem.W.kla_obj "<lambda>" q params body scope cl pm c' ctv)
  code : ∃ (oc : Obj) (us : Array Value) (t : Tok), base.get? c' = some oc ∧ oc.data = .fields us ∧ us[1]? = some (.str q t)
  kind : scope.kind = .function
  co : scope.isCoroutine = false
  gen : scope.isGenerator = false
  own : ∀ z ∈ scope.names, z.2 ≠ .cell
  par : scope.names.lookup y = some .local
  inj : ∀ x z c, cl.lookup x = some c → cl.lookup z = some c → x = z
  has : ∀ x, scope.names.lookup x = some .free → ∃ c, cl.lookup x = some c
  cells : ∀ x c, cl.lookup x = some c → ∃ v, base.IsCell c v
  caps : ∀ (i : Nat) (x : Str) (v : V), xs[i]? = some x → vs[i]? = some v → ∃ c u, cl.lookup x = some c ∧ scope.names.lookup x = some .free ∧ RelV v u ∧ base.IsCell c (some u)
  len : xs.length = vs.length
  bind : ∀ (pm ctv u : Value), bindArgs (PySem.W.kla_fn "<lambda>" q params body scope cl pm (.ref c') ctv) ⟨[u], []⟩ = pure [(y, u)]
section
variable {P : Program} {w : World} {K : PySem.W.Frag} {mg : Str → Option Value} {base : Heap} {f c' : Addr} {q y : Str} {params : Arguments} {body : Expr} {scope : Scope} {cl : List (Str × Addr)} {xs : List Str} {vs : List V}
theorem clo_start {A : Around} {outer : List Env} {s : Shared} {H : Hp} {E : XK} {v : V} {u : Value} {h₁ : Heap} {tk : Nat} (Z : CloAt base f c' q params body scope cl y xs vs) (e0 : Env0 P w K mg base A outer s H) (hd : A.handled = none) (r : RelV v u)
    (hns : h₁.Ns s.heap.objs.size fun x => ([(y, u)] : List (Str × Value)).reverse.lookup x) (kp : ∀ b o, s.heap.get? b = some o → h₁.get? b = some o) :
    Inv (cloCx P w K mg base A outer s H E q scope f c' cl (y :: xs)) [] (some v :: vs.map some) H { s with heap := h₁, toks := tk } := by
  have noA : ∀ b : Addr, b ∉ (cloCx P w K mg base A outer s H E q scope f c' cl (y :: xs)).ex := fun b z => absurd (show b ∈ ([] : List Addr) from z) (by simp)
  have inS : ∀ {c : Addr} {z : Option Value}, base.IsCell c z → s.heap.IsCell c z ∧ H c = none := fun {c z} ⟨o, ho, hd⟩ => ⟨⟨o, (e0.bs c o ho).1, hd⟩, (e0.bs c o ho).2⟩
  refine ⟨⟨e0.mod, Z.kind, rfl, rfl, Nat.le_refl _, Z.inj, fun x hx => ?_, fun x c z _ => ?_, fun _ => hd, Around.frames_deeper e0.frames, .inr ⟨rfl, rfl⟩, fun b z => absurd z (noA b), e0.bs, e0.bsz, fun b _ _ => noA b,
      fun b z => absurd z (noA b), e0.funs, e0.frf⟩,
    rfl, e0.bare, Un.kept kp, ⟨_, hns, fun i x z e1 e2 e3 => ?_⟩, fun x c e => ?_, e0.hok.fresh (Nat.le_refl _), fun x c e => ?_, fun p hp => absurd (show p ∈ ([] : List (Addr × Obj)) ++ [] from hp) (by simp), e0.hok.kept kp, ?_⟩
  · have hx : scope.names.lookup x = some .cell ∨ scope.names.lookup x = some .free := hx
    rcases hx with hx | hx
    · exact absurd rfl (Z.own _ (PySem.mem_of_lookup hx))
    · exact Z.has x hx
  · have z : false = true := z
    cases z
  · cases i with
    | zero =>
      have ex : y = x := Option.some.inj e1
      have ev : v = z := Option.some.inj (Option.some.inj e2)
      subst ex
      subst ev
      refine ⟨u, r, .inl ⟨Z.par, ?_⟩⟩
      simp [List.lookup]
    | succ i =>
      have e1' : xs[i]? = some x := e1
      have e2' : (vs.map some)[i]? = some (some z) := e2
      rw [List.getElem?_map] at e2'
      obtain ⟨z', h1, h2⟩ := Option.map_eq_some_iff.mp e2'
      cases h2
      obtain ⟨c, u', l1, l2, r', hc⟩ := Z.caps i x z e1' h1
      exact ⟨u', r', .inr ⟨.inr l2, c, l1, (inS hc).1.keeps kp⟩⟩
  · obtain ⟨z, hz⟩ := Z.cells x c e
    exact ⟨z, (inS hz).1.keeps kp⟩
  · obtain ⟨z, hz⟩ := Z.cells x c e
    exact (inS hz).2
  · show (some v :: vs.map some).length = (y :: xs).length
    simp [Z.len]
/-- such a lambda, called: its body's reading, the captured values in the slots behind the parameter's -/
theorem fnR_clo {k : Nat} {tb : XK → TE} (Z : CloAt base f c' q params body scope cl y xs vs)
    (hbody : ∀ (A : Around) (outer : List Env) (s : Shared) (H : Hp) (E : XK), Room k (A.deeper (cloEnv q scope s.heap.objs.size f c' cl)) → PE (cloCx P w K mg base A outer s H E q scope f c' cl (y :: xs)) body (tb E)) :
    FnR P w K mg base (L2.CX P w) (k + 1) f (fun ws H Q E => ∃ v, ws = [v] ∧ tb E (some v :: vs.map some) H Q) := by
  intro A outer s H us ws Q E hr e0 r ⟨v, ew, ht⟩
  subst ew
  cases r with
  | @cons _ u _ ur r0 rn =>
    cases rn
    obtain ⟨pm, ctv, o⟩ := Z.fn
    obtain ⟨oc, as, t, hoc, hdc, hvc⟩ := Z.code
    refine PySem.W.kla_callFunE hr.depth (e0.bs _ _ o).1 rfl Z.co Z.gen rfl ⟨c', oc, as, t, rfl, (e0.bs _ _ hoc).1, hdc, hvc⟩ ?_
    rw [Z.bind]
    refine wpAny_pure (wpAny_newFunctionEnv Z.own (fun z hz => by rw [List.mem_singleton.mp hz]; exact Z.par) (fun h₁ hns hsb => ?_) Z.kind)
    have lim : s.heap.NoLimit := e0.mod.nolimit.keeps fun b o e => (e0.bs b o e).1
    refine ⟨lim.fresh _ hsb, ?_⟩
    have kp : ∀ b o, s.heap.get? b = some o → h₁.get? b = some o := fun b o e => hsb.extBut b o (Nat.ne_of_lt (Heap.lt_size e)) (Heap.get?_push_of_some _ e)
    have J := clo_start (tk := s.toks + ([(y, u)] : List (Str × Value)).length) (E := E) Z e0 hr.hd r0 hns kp
    refine PySem.W.kla_codeExpr (wpAny_mono ((hbody A outer s H E (hr.deeper _)).run [] _ _ H Q J ht) (fun z s' hq => ?_) fun e s' hq => hq)
    obtain ⟨v', H', J', rv, q⟩ := hq
    exact ⟨v', H', J'.os, J'.bare, J'.base, J'.hok, rv, q⟩
end
end L2
namespace L2
open PySem PySem.Spec PyProof.Rows
/-- H without what it tracks at the places of L -/
def hidL (H : Hp) (L : List Addr) : Hp := fun b => if b ∈ L then none else H b
/-- H' with what H tracked there -/
def reL (H H' : Hp) (L : List Addr) : Hp := fun b => if b ∈ L then H b else H' b
theorem hidL_in {H : Hp} {L : List Addr} {b : Addr} (h : b ∈ L) : hidL H L b = none := if_pos h
theorem hidL_out {H : Hp} {L : List Addr} {b : Addr} (h : b ∉ L) : hidL H L b = H b := if_neg h
theorem reL_in {H H' : Hp} {L : List Addr} {b : Addr} (h : b ∈ L) : reL H H' L b = H b := if_pos h
theorem reL_out {H H' : Hp} {L : List Addr} {b : Addr} (h : b ∉ L) : reL H H' L b = H' b := if_neg h
theorem hidL_none {H : Hp} {L : List Addr} {b : Addr} (h : H b = none) : hidL H L b = none := by
  by_cases m : b ∈ L
  · exact hidL_in m
  · rw [hidL_out m]
    exact h
/-- all that L holds is told of one object alone -/
def ExtL (H : Hp) (L : List Addr) : Prop := ∀ b ∈ L, ∃ φ, H b = some (.ext φ)
theorem ExtL.out {H : Hp} {L : List Addr} (x : ExtL H L) {b : Addr} {o : HO} (e : H b = some o) (n : ∀ φ, o ≠ .ext φ) : b ∉ L := fun m => by
  obtain ⟨φ, q⟩ := x b m
  rw [q] at e
  exact n φ (Option.some.inj e).symm
theorem ExtL.free {H : Hp} {L : List Addr} (x : ExtL H L) {b : Addr} (e : H b = none) : b ∉ L := fun m => by
  obtain ⟨φ, q⟩ := x b m
  rw [q] at e
  cases e
theorem funFrames_more {h B G : Heap} : ∀ {l : List Env}, h.FunFrames B l → (∀ b ∈ frs l, G.get? b = none) → h.FunFrames G l
  | [], _, _ => trivial
  | env :: r, ⟨h1, ⟨L, o, e1, e2, e3, e4⟩, h3⟩, n => by
    refine ⟨h1, ⟨L, o, e1, n L ?_, e3, e4⟩, funFrames_more h3 fun b hb => n b ?_⟩
    · unfold frs
      rw [List.filterMap_cons, e1]
      exact List.mem_cons_self ..
    · unfold frs at hb ⊢
      rw [List.filterMap_cons, e1]
      exact List.mem_cons_of_mem _ hb
section
variable {X : Cx} {pins : List (Addr × Obj)} {σ : St} {H : Hp} {s : Shared} {L S : List Addr}
theorem hok_hid (x : HOk X.prog X.w H s.heap) (hL : ExtL H L) : HOk X.prog X.w (hidL H L) s.heap := fun b o e => by
  have hb : b ∉ L := fun m => by
    rw [hidL_in m] at e
    cases e
  rw [hidL_out hb] at e
  refine (x b o e).stay (fun c u _ q => q) (fun c q => ?_) (fun c xs q => ?_)
  · rw [hidL_out (hL.out q (fun _ z => by cases z))]
    exact q
  · rw [hidL_out (hL.out q (fun _ z => by cases z))]
    exact q
/-- a base that holds S too; what L holds is not tracked meanwhile -/
theorem base_more (I : Inv X pins σ H s) (hL : ExtL H L) (hS : ∀ b ∈ S, hidL H L b = none) (hf : ∀ b ∈ S, b ∉ frs X.stack) :
    ∃ B : Heap, (∀ b o, X.base.get? b = some o → B.get? b = some o) ∧ (∀ b o, b ∈ S → s.heap.get? b = some o → B.get? b = some o) ∧ Env0 X.prog X.w X.K X.mg B X.A X.stack s (hidL H L) := by
  have key : ∃ G : Heap, (∀ b o, s.heap.get? b = some o → ((X.base.get? b).isSome || decide (b ∈ S)) = true → G.get? b = some o) ∧ (∀ b o, G.get? b = some o → s.heap.get? b = some o ∧ ((X.base.get? b).isSome || decide (b ∈ S)) = true) ∧ G.objs.size = s.heap.objs.size := by
    refine ⟨PySem.W.hideAll s.heap ((List.range s.heap.objs.size).filter fun b => !((X.base.get? b).isSome || decide (b ∈ S))), fun b o e h => ?_, fun b o e => ⟨PySem.W.of_hideAll _ e, ?_⟩, PySem.W.hideAll_size _ _⟩
    · refine PySem.W.hideAll_get _ e fun m => ?_
      have z := (List.mem_filter.mp m).2
      rw [h] at z
      cases z
    · cases q : ((X.base.get? b).isSome || decide (b ∈ S)) with
      | true => rfl
      | false =>
        have lt : b < s.heap.objs.size := Heap.lt_size (PySem.W.of_hideAll _ e)
        have m : b ∈ (List.range s.heap.objs.size).filter fun b => !((X.base.get? b).isSome || decide (b ∈ S)) := List.mem_filter.mpr ⟨List.mem_range.mpr lt, by simp [q]⟩
        rw [PySem.W.hideAll_none _ m] at e
        cases e
  obtain ⟨G, g1, g2, g3⟩ := key
  have old : ∀ b o, X.base.get? b = some o → G.get? b = some o := fun b o e => g1 b o (I.bk b o e) (by rw [e]; rfl)
  have M := I.mod
  obtain ⟨mb, hb1, hb2⟩ := M.blt
  refine ⟨G, old, fun b o m e => g1 b o e (by simp [m]), I.ok.frames, ⟨M.kin.keeps old, M.glob.keeps old, ⟨mb, hb1.keeps old, hb2⟩, M.nolimit.keeps old⟩, fun b o e => ?_, Nat.le_of_eq g3, funFrames_more I.stack fun b hb => ?_, fun b hb => hidL_none (I.stkFree b hb), hok_hid I.hok hL, I.bare⟩
  · obtain ⟨e1, e2⟩ := g2 b o e
    refine ⟨e1, ?_⟩
    by_cases m : b ∈ S
    · exact hS b m
    · have q : (X.base.get? b).isSome = true := by simpa [m] using e2
      obtain ⟨o', q⟩ := Option.isSome_iff_exists.mp q
      exact hidL_none (I.bs b o' q).2
  · cases q : G.get? b with
    | none => rfl
    | some o =>
      obtain ⟨_, e2⟩ := g2 b o q
      have nb : X.base.get? b = none := (I.stack.mem hb).1
      have m : b ∉ S := fun m => hf b m hb
      rw [nb] at e2
      simp [m] at e2
/-- behind the call what L holds is tracked again -/
theorem ce_back {Q : VK} {u : Value} {s' : Shared} (I : Inv X pins σ H s) (hL : ExtL H L) (h : CE X.stack X.prog X.w (hidL H L) s (fun v H' => Q v (reL H H' L)) u s') : CE X.stack X.prog X.w H s Q u s' := by
  obtain ⟨v, H', os, bare, un, hok, r, q⟩ := h
  have there : ∀ b ∈ L, ∃ o, s.heap.get? b = some o ∧ s'.heap.get? b = some o ∧ H' b = none := fun b m => by
    obtain ⟨φ, e⟩ := hL b m
    obtain ⟨_, ⟨o, ho⟩, _⟩ := (show ObjOk X.prog X.w H s.heap b (.ext φ) from I.hok b _ e)
    have nf : b ∉ frs X.stack := fun z => by
      rw [I.stkFree b z] at e
      cases e
    exact ⟨o, ho, un.keep b o ho (hidL_in m) nf (by simp), un.free b o ho (hidL_in m) (by simp)⟩
  have outL : ∀ {b : Addr} {o : HO}, H' b = some o → b ∉ L := fun {b o} e m => by
    obtain ⟨_, _, _, z⟩ := there b m
    rw [z] at e
    cases e
  refine ⟨v, reL H H' L, os, bare, ⟨fun b o e n f x => un.keep b o e (hidL_none n) f x, fun b o e n f x => un.slot b o e (hidL_none n) f x, fun b o e n x => ?_, fun b o e x => un.there b o e x, fun b xs e => ?_, fun b o u e => ?_, fun b ps e => ?_⟩, fun b o e => ?_, r, q⟩
  · rw [reL_out (hL.free n)]
    exact un.free b o e (hidL_none n) x
  · have m := hL.out e (fun _ z => by cases z)
    rw [reL_out m]
    exact un.tups b xs (by rw [hidL_out m]; exact e)
  · have m := hL.out e (fun _ z => by cases z)
    rw [reL_out m]
    exact un.frzs b o u (by rw [hidL_out m]; exact e)
  · have m := hL.out e (fun _ z => by cases z)
    rw [reL_out m]
    exact un.tbls b ps (by rw [hidL_out m]; exact e)
  · by_cases m : b ∈ L
    · rw [reL_in m] at e
      obtain ⟨φ, e'⟩ := hL b m
      rw [e'] at e
      cases e
      obtain ⟨p, _, st⟩ := (show ObjOk X.prog X.w H s.heap b (.ext φ) from I.hok b _ e')
      obtain ⟨o, h1, h2, _⟩ := there b m
      exact ⟨st _ _ p fun o' z => by rw [h1] at z; cases z; exact h2, ⟨o, h2⟩, st⟩
    · rw [reL_out m] at e
      refine (hok b o e).stay (fun c u _ z => z) (fun c z => ?_) (fun c xs z => ?_)
      · rw [reL_out (outL z)]
        exact z
      · rw [reL_out (outL z)]
        exact z
end
end L2
namespace L2
open PySem PySem.Spec PyProof.Rows
/-- what a larger base is known to hold: what L tracked, and the cells of the def at hand -/
structure Known (X : Cx) (σ : St) (H : Hp) (L : List Addr) (B : Heap) : Prop where
  old : ∀ b o, X.base.get? b = some o → B.get? b = some o
  ext : ∀ b ∈ L, ∀ φ, H b = some (.ext φ) → φ B
  cell : ∀ (i : Nat) (y : Str) (v : V) (c : Addr), X.N[i]? = some y → σ[i]? = some (some v) → X.env.scope.names.lookup y = some .cell → X.env.cells.lookup y = some c → ∃ u, RelV v u ∧ B.IsCell c (some u)
  any : ∀ (y : Str) (c : Addr), X.env.cells.lookup y = some c → ∃ z, B.IsCell c z
section
variable {X : Cx} {pins : List (Addr × Obj)} {σ : St} {H : Hp} {s : Shared} {L : List Addr}
theorem known_base (I : Inv X pins σ H s) (hL : ExtL H L) (hfn : ∀ y, X.fn y = true) : ∃ B : Heap, Known X σ H L B ∧ Env0 X.prog X.w X.K X.mg B X.A X.stack s (hidL H L) := by
  have cellIn : ∀ c ∈ X.env.cells.map (·.2), ∃ y, X.env.cells.lookup y = some c ∨ True := fun c _ => ⟨"", .inr trivial⟩
  have hS : ∀ b ∈ L ++ (X.env.cells.filterMap fun p => X.env.cells.lookup p.1), hidL H L b = none := fun b hb => by
    rcases List.mem_append.mp hb with m | m
    · exact hidL_in m
    · obtain ⟨p, _, e⟩ := List.mem_filterMap.mp m
      exact hidL_none (I.freeC p.1 b e)
  have hf : ∀ b ∈ L ++ (X.env.cells.filterMap fun p => X.env.cells.lookup p.1), b ∉ frs X.stack := fun b hb z => by
    rcases List.mem_append.mp hb with m | m
    · obtain ⟨φ, e⟩ := hL b m
      rw [I.stkFree b z] at e
      cases e
    · obtain ⟨p, _, e⟩ := List.mem_filterMap.mp m
      rcases List.mem_cons.mp (I.stkSub b z) with q | q
      · exact I.cne p.1 b e q
      · obtain ⟨_, o, ho, _⟩ := I.ok.funs.mem q
        exact absurd (Nat.lt_of_lt_of_le (Heap.lt_size ho) (I.ok.cab p.1 b (hfn p.1) e)) (Nat.lt_irrefl _)
  have inS : ∀ {y : Str} {c : Addr}, X.env.cells.lookup y = some c → c ∈ L ++ (X.env.cells.filterMap fun p => X.env.cells.lookup p.1) := fun {y c} e =>
    List.mem_append_right _ (List.mem_filterMap.mpr ⟨(y, c), PySem.mem_of_lookup e, e⟩)
  obtain ⟨B, b1, b2, b3⟩ := base_more I hL hS hf
  refine ⟨B, ⟨b1, fun b m φ e => ?_, fun i y v c e1 e2 e3 e4 => ?_, fun y c e => ?_⟩, b3⟩
  · obtain ⟨p, ⟨o, ho⟩, st⟩ := (show ObjOk X.prog X.w H s.heap b (.ext φ) from I.hok b _ e)
    exact st _ _ p fun o' z => b2 b o' (List.mem_append_left _ m) z
  · obtain ⟨m, _, hl⟩ := I.loc
    obtain ⟨u, r, q⟩ := hl i y v e1 e2 (.inr (.inl e3))
    rcases q with ⟨k, _⟩ | ⟨_, c2, e, o, ho, hd⟩
    · have k : X.env.scope.names.lookup y = some .local := k
      rw [e3] at k
      cases k
    · rw [e4] at e
      cases e
      exact ⟨u, r, o, b2 c o (inS e4) ho, hd⟩
  · obtain ⟨z, o, ho, hd⟩ := I.cell y c e
    exact ⟨z, o, b2 c o (inS e) ho, hd⟩
theorem cx_false {P : Program} {w : World} {outer : List Env} {e : Value} {s' : Shared} (h : L2.CX P w outer H s (fun _ _ _ => False) e s') : False := by
  obtain ⟨_, _, _, _, _, _, _, _, _, _, _, _, z⟩ := h
  exact z
/-- a def that keeps its promise over every base, called from one that holds what it needs besides; nothing is raised -/
theorem run_fnH {k : Nat} {f : Addr} {fd : FuncData} {ps : List Str} {ds : List Value} {dvs : List V} {sp : Heap → Sp} {Q : VK} {us : List Value} {vs : List V} (F : ∀ B, (∀ b o, X.base.get? b = some o → B.get? b = some o) → FnOk X.prog X.w X.K X.mg B (L2.CX X.prog X.w) k f fd ps (sp B)) (hr : Room k X.A)
    (hb : Binds X.K fd ps ds) (hd : Vals dvs ds) (hfn : ∀ y, X.fn y = true) (I : Inv X pins σ H s) (r : Vals vs us)
    (h : ∃ L, ExtL H L ∧ ∀ B, Known X σ H L B → sp B (vs ++ dvs) (hidL H L) (fun v H' => Q v (reL H H' L)) (fun _ _ _ => False)) : wpAny (model X.prog X.w) X.A (call (.ref f) us) (EP X pins σ Q) X.xe s := by
  obtain ⟨L, hL, h⟩ := h
  obtain ⟨B, kb, e0⟩ := known_base I hL hfn
  have q := h B kb
  have G := F B kb.old
  have r2 : Vals (vs ++ dvs) (us ++ ds) := r.append hd
  have hl : (us ++ ds).length = ps.length := by
    rw [← r2.length]
    exact G.len _ _ _ _ q
  refine wpAny_call (codeAny_mono (G.run X.A X.stack s (hidL H L) ⟨us, []⟩ (us ++ ds) (vs ++ dvs) _ _ hr e0 (hb s us I.kIn hl) r2 q) fun res s' back => ?_)
  cases res with
  | error e => exact (cx_false back).elim
  | ok fl =>
    cases fl with
    | ret u => exact I.after (ce_back I hL back)
    | next => exact False.elim back
    | brk => exact False.elim back
    | cont => exact False.elim back
/-- what such a call reads -/
def tCallH (X : Cx) (sp : Heap → Sp) (dvs : List V) (t : TA) : TE := fun σ H Q => t σ H fun vs H1 => ∃ L, ExtL H1 L ∧ ∀ B, Known X σ H1 L B → sp B (vs ++ dvs) (hidL H1 L) (fun v H' => Q v (reL H1 H' L)) (fun _ _ _ => False)
end
section
variable {X : Cx} {k : Nat} {f C : Addr} {fd : FuncData} {ps : List Str} {ds : List Value} {dvs : List V} {sp : Heap → Sp} {x m : Str} {p pos apos : Pos} {e o : Expr} {es : List Expr} {t ta : TA} {to : TE}
theorem pe_callH (F : ∀ B, (∀ b o, X.base.get? b = some o → B.get? b = some o) → FnOk X.prog X.w X.K X.mg B (L2.CX X.prog X.w) k f fd ps (sp B)) (hr : Room k X.A) (hg : Gl X x) (hm : X.mg x = some (.ref f)) (hk : PySem.W.keepIn X.K (.ref f) = true) (hb : Binds X.K fd ps ds) (hd : Vals dvs ds) (hfn : ∀ y, X.fn y = true) (ha : PA X (e :: es) t)
    (hdb : (x == ("__debug__" : Str)) = false := by decide) (he : starEach (e :: es) X.env = (false, eval e X.env) :: starEach es X.env := by rfl) (hpl : (backTo pos (starEach es X.env)).any (·.1) = false := by rfl) :
    PE X (.Call (.Name x p) (e :: es) [] pos) (tCallH X sp dvs t) := by
  refine ⟨fun pins s σ H Q I h => ?_⟩
  refine wpAny_Call_Name_kw (ld_glob I hg hm ?_ hdb)
  exact PySem.W.callWith_K (h₀ := X.base) I.ok.mod.kin hk (thn (ha.run pos pins s σ H _ I h) fun us s1 ⟨vs, H1, I1, r, q⟩ => ⟨I1.kIn, run_fnH F hr hb hd hfn I1 r q⟩) he hpl
/-- o.m(e, ..) likewise -/
def tMethH (X : Cx) (C : Addr) (m : Str) (sp : Heap → Sp) (dvs : List V) (to : TE) (t : TA) : TE := fun σ H Q => to σ H fun y H1 => ∃ a dx fs, y = .ref a ∧ H1 a = some (.ins C dx fs) ∧ fs.lookup m = none ∧
  t σ H1 fun vs H2 => ∃ L, ExtL H2 L ∧ ∀ B, Known X σ H2 L B → sp B (.ref a :: (vs ++ dvs)) (hidL H2 L) (fun v H' => Q v (reL H2 H' L)) (fun _ _ _ => False)
theorem pe_methH {pl : Sem Bool} (he : PE X o to) (c : Cls X.K C) (hm : Meth X.K C m f) (F : ∀ B, (∀ b o, X.base.get? b = some o → B.get? b = some o) → FnOk X.prog X.w X.K X.mg B (L2.CX X.prog X.w) k f fd ps (sp B)) (hr : Room k X.A) (hb : Binds X.K fd ps ds) (hd : Vals dvs ds) (hfn : ∀ y, X.fn y = true) (ha : PA X (e :: es) t)
    (hst : starEach (e :: es) X.env = (false, eval e X.env) :: starEach es X.env := by rfl) (hpl : (backTo pos (starEach es X.env)).any (·.1) = false := by rfl)
    (ht : eval (.Call (.Attribute o m apos) (e :: es) [] pos) X.env = (do
      let ov ← eval o X.env
      standAt apos.atName
      let (f, first) ← holding [ov] (getMethod ov m pl)
      callWith pos f first (backTo pos (starEach (e :: es) X.env)) (backToKw pos (keywordEach [] X.env))) := by rfl) :
    PE X (.Call (.Attribute o m apos) (e :: es) [] pos) (tMethH X C m sp dvs to t) := by
  refine ⟨fun pins s σ H Q I h => ?_⟩
  refine PySem.W.methodCall_KW (pl := pl) (thn (he.run pins s σ H _ I h) fun u s1 ⟨y, H1, I1, rx, a, dx, fs, ex, ea, l, q⟩ => ?_) ht
  subst ex
  obtain rfl : u = Value.ref a := rx
  refine getmeth_ok I1 ea c hm l ?_
  refine PySem.W.callWith_K (first := [.ref a]) (h₀ := X.base) I.ok.mod.kin hm.kp (thn (ha.run pos pins s1 σ H1 _ I1 q) fun us s2 ⟨vs, H2, I2, r, q2⟩ => ⟨I2.kIn, ?_⟩) hst hpl
  exact run_fnH (us := .ref a :: us) (vs := .ref a :: vs) F hr hb hd hfn I2 (.cons rfl r) q2
/-- x(e, ..), x a local name that holds what can be called over the base at hand -/
theorem pe_callW {i : Nat} {E : XK} (hr : Room k X.A) (hN : X.N[i]? = some x) (hv : Vis X.env.scope x) (hx : Passes (L2.CX X.prog X.w) X E) (ha : PA X (e :: es) t) (hd : (x == ("__debug__" : Str)) = false := by decide) (hcd : (x == ("__classdict__" : Str)) = false := by decide)
    (he : starEach (e :: es) X.env = (false, eval e X.env) :: starEach es X.env := by rfl) (hpl : (backTo pos (starEach es X.env)).any (·.1) = false := by rfl) :
    PE X (.Call (.Name x p) (e :: es) [] pos) (fun σ H Q => ∃ (g : Addr) (s1 : Sp), σ[i]? = some (some (.ref g)) ∧ FnR X.prog X.w X.K X.mg X.base (L2.CX X.prog X.w) k g s1 ∧ PySem.W.FnAt g X.base ∧ t σ H fun vs H1 => s1 vs H1 Q E) := by
  refine ⟨fun pins s σ H Q I h => ?_⟩
  obtain ⟨g, sq, hs, F, ⟨oc, od, fdd, sl, hat⟩, ht⟩ := h
  refine wpAny_Call_Name_kw (thn ((pe_var (pos := p) hN hv hd hcd).run pins s σ H (fun v H1 => v = .ref g ∧ H1 = H) I ⟨.ref g, hs, rfl, rfl⟩) fun u s1 ⟨v, H1, I1, r1, q1⟩ => ?_)
  obtain ⟨ev, eH⟩ := q1
  subst ev
  subst eH
  obtain rfl : u = Value.ref g := r1
  exact PySem.W.callWith_F ⟨_, _, _, _, I1.bk _ _ hat⟩ (thn (ha.run pos pins s1 σ H1 _ I1 ht) fun us s2 ⟨vs, H2, I2, r, q⟩ => ⟨⟨_, _, _, _, I2.bk _ _ hat⟩, wpAny_call (run_fnR F hr hx I2 r q)⟩) he hpl
end
/-- a def as what it does with the values that come -/
theorem fnR_of {P : Program} {w : World} {K : PySem.W.Frag} {mg : Str → Option Value} {base : Heap} {CX : CXT} {k : Nat} {f : Addr} {fd : FuncData} {ps : List Str} {sp : Sp} (F : FnOk P w K mg base CX k f fd ps sp) (hb : Binds K fd ps []) : FnR P w K mg base CX k f sp := by
  intro A outer s H us vs Q E hr e0 r h
  have KX : K.In s.heap := e0.mod.kin.keeps fun b o e => (e0.bs b o e).1
  have hl : us.length = ps.length := by
    rw [← r.length]
    exact F.len _ _ _ _ h
  have z := hb s us KX (by rw [List.append_nil]; exact hl)
  rw [List.append_nil] at z
  exact F.run A outer s H ⟨us, []⟩ us vs Q E hr e0 z r h
end L2
namespace L2
open PySem PySem.Spec PyProof.Rows
section
variable {X : Cx} {k i : Nat} {x : Str} {p pos : Pos} {e : Expr} {es : List Expr} {t : TA}
/-- x(e, ..), x a local name that holds what can be called; what it raises is wished for at the caller's slots -/
theorem pe_callWS {E : St → XK} (hr : Room k X.A) (hN : X.N[i]? = some x) (hv : Vis X.env.scope x) (hx : ∀ σ, PassesAt (L2.CX X.prog X.w) X σ (E σ)) (ha : PA X (e :: es) t) (hd : (x == ("__debug__" : Str)) = false := by decide) (hcd : (x == ("__classdict__" : Str)) = false := by decide)
    (he : starEach (e :: es) X.env = (false, eval e X.env) :: starEach es X.env := by rfl) (hpl : (backTo pos (starEach es X.env)).any (·.1) = false := by rfl) :
    PE X (.Call (.Name x p) (e :: es) [] pos) (fun σ H Q => ∃ (g : Addr) (s1 : Sp), σ[i]? = some (some (.ref g)) ∧ FnR X.prog X.w X.K X.mg X.base (L2.CX X.prog X.w) k g s1 ∧ PySem.W.FnAt g X.base ∧ t σ H fun vs H1 => s1 vs H1 Q (E σ)) := by
  refine ⟨fun pins s σ H Q I h => ?_⟩
  obtain ⟨g, sq, hs, F, ⟨oc, od, fdd, sl, hat⟩, ht⟩ := h
  refine wpAny_Call_Name_kw (thn ((pe_var (pos := p) hN hv hd hcd).run pins s σ H (fun v H1 => v = .ref g ∧ H1 = H) I ⟨.ref g, hs, rfl, rfl⟩) fun u s1 ⟨v, H1, I1, r1, q1⟩ => ?_)
  obtain ⟨ev, eH⟩ := q1
  subst ev
  subst eH
  obtain rfl : u = Value.ref g := r1
  refine PySem.W.callWith_F ⟨_, _, _, _, I1.bk _ _ hat⟩ (thn (ha.run pos pins s1 σ H1 _ I1 ht) fun us s2 ⟨vs, H2, I2, r, q⟩ => ⟨⟨_, _, _, _, I2.bk _ _ hat⟩, ?_⟩) he hpl
  refine wpAny_call (codeAny_mono (F X.A X.stack s2 H2 us vs Q (E σ) hr I2.env0 r q) fun res s' back => ?_)
  cases res with
  | error er => exact hx σ pins H2 s2 er s' I2 back
  | ok fl =>
    cases fl with
    | ret z => exact I2.after back
    | next => exact False.elim back
    | brk => exact False.elim back
    | cont => exact False.elim back
end
/-- a promise, wished for less -/
def spUp (s1 : Sp) : Sp := fun vs H Q E => ∃ (Q0 : VK) (E0 : XK), s1 vs H Q0 E0 ∧ (∀ v H', Q0 v H' → Q v H') ∧ (∀ cls d H', E0 cls d H' → E cls d H')
theorem cx_up {P : Program} {w : World} {outer : List Env} {H : Hp} {s : Shared} {E0 E : XK} {u : Value} {s' : Shared} (h : ∀ cls d H', E0 cls d H' → E cls d H') (c : L2.CX P w outer H s E0 u s') : L2.CX P w outer H s E u s' := by
  obtain ⟨a, B, H', cls, d, e1, e2, e3, e4, e5, e6, e7, e8⟩ := c
  exact ⟨a, B, H', cls, d, e1, e2, e3, e4, e5, e6, e7, h _ _ _ e8⟩
theorem cr_up {P : Program} {w : World} {outer : List Env} {H : Hp} {s : Shared} {Q0 Q : VK} {E0 E : XK} {r : Result} {s' : Shared} (hq : ∀ v H', Q0 v H' → Q v H') (h : ∀ cls d H', E0 cls d H' → E cls d H') (c : CR (L2.CX P w) outer P w H s Q0 E0 r s') : CR (L2.CX P w) outer P w H s Q E r s' := by
  cases r with
  | error e => exact cx_up h c
  | ok fl =>
    cases fl with
    | ret u =>
      obtain ⟨v, H', e1, e2, e3, e4, e5, e6⟩ := c
      exact ⟨v, H', e1, e2, e3, e4, e5, hq _ _ e6⟩
    | next => exact False.elim c
    | brk => exact False.elim c
    | cont => exact False.elim c
theorem fnR_up {P : Program} {w : World} {K : PySem.W.Frag} {mg : Str → Option Value} {base : Heap} {k : Nat} {f : Addr} {s1 : Sp} (F : FnR P w K mg base (L2.CX P w) k f s1) : FnR P w K mg base (L2.CX P w) k f (spUp s1) := by
  intro A outer s H us vs Q E hr e0 r h
  obtain ⟨Q0, E0, h1, h2, h3⟩ := h
  exact codeAny_mono (F A outer s H us vs Q0 E0 hr e0 r h1) fun res s' c => cr_up h2 h3 c
/-- what a call of the callable that slot i holds reads -/
def tCallW (P : Program) (w : World) (K : PySem.W.Frag) (mg : Str → Option Value) (base : Heap) (k i : Nat) (E : St → XK) (t : TA) : TE := fun σ H Q =>
  ∃ (g : Addr) (s1 : Sp), σ[i]? = some (some (.ref g)) ∧ FnR P w K mg base (L2.CX P w) k g s1 ∧ PySem.W.FnAt g base ∧ t σ H fun vs H1 => s1 vs H1 Q (E σ)
theorem pe_callWT {X : Cx} {k i j : Nat} {x y : Str} {p pos p2 : Pos} {W : WX} {pn : List (Addr × Obj)} {xe : Value → Shared → Prop} (hr : Room k X.A) (hN : X.N[i]? = some x) (hv : Vis X.env.scope x) (hN2 : X.N[j]? = some y) (hv2 : Vis X.env.scope y) (tk : Takes (X.tr pn xe) W)
    (hd : (x == ("__debug__" : Str)) = false := by decide) (hcd : (x == ("__classdict__" : Str)) = false := by decide) (hd2 : (y == ("__debug__" : Str)) = false := by decide) (hcd2 : (y == ("__classdict__" : Str)) = false := by decide) :
    PE (X.tr pn xe) (.Call (.Name x p) [.Name y p2] [] pos) (tCallW X.prog X.w X.K X.mg X.base k i (WE W) (tCons (tVar j) tNil)) :=
  pe_callWS (X := X.tr pn xe) hr hN hv (fun σ => passAt tk σ) (pa_cons (pe_var (X := X.tr pn xe) hN2 hv2 hd2 hcd2) pa_nil) hd hcd
end L2
namespace TW
open PySem PySem.Spec PyProof.Rows L2
theorem pF_n0_1 : ¬ (("answers" : Str) = "pending") := by decide +kernel
theorem pF_n0_2 : ¬ (("answers" : Str) = "end") := by decide +kernel
theorem pF_n0_3 : ¬ (("answers" : Str) = "words") := by decide +kernel
theorem pF_n1_0 : ¬ (("pending" : Str) = "answers") := by decide +kernel
theorem pF_n1_2 : ¬ (("pending" : Str) = "end") := by decide +kernel
theorem pF_n1_3 : ¬ (("pending" : Str) = "words") := by decide +kernel
theorem pF_n2_0 : ¬ (("end" : Str) = "answers") := by decide +kernel
theorem pF_n2_1 : ¬ (("end" : Str) = "pending") := by decide +kernel
theorem pF_n2_3 : ¬ (("end" : Str) = "words") := by decide +kernel
theorem pF_n3_0 : ¬ (("words" : Str) = "answers") := by decide +kernel
theorem pF_n3_1 : ¬ (("words" : Str) = "pending") := by decide +kernel
theorem pF_n3_2 : ¬ (("words" : Str) = "end") := by decide +kernel
/-- the attributes of a pF, in the order in which __init__ stores them -/
def pF (v0 v1 v2 v3 : V) : List (Str × V) := [("answers", v0), ("pending", v1), ("end", v2), ("words", v3)]
theorem pF_get0 {v0 v1 v2 v3 : V} : (pF v0 v1 v2 v3).lookup ("answers" : Str) = some v0 := by
  unfold pF
  rw [lookup_put, if_pos rfl]
theorem pF_put0 {v0 v1 v2 v3 z : V} : putF "answers" z (pF v0 v1 v2 v3) = pF z v1 v2 v3 := by
  unfold pF
  simp only [putF, if_true]
theorem pF_get1 {v0 v1 v2 v3 : V} : (pF v0 v1 v2 v3).lookup ("pending" : Str) = some v1 := by
  unfold pF
  rw [lookup_put, if_neg pF_n1_0, lookup_put, if_pos rfl]
theorem pF_put1 {v0 v1 v2 v3 z : V} : putF "pending" z (pF v0 v1 v2 v3) = pF v0 z v2 v3 := by
  unfold pF
  simp only [putF, if_neg pF_n0_1, if_true]
theorem pF_get2 {v0 v1 v2 v3 : V} : (pF v0 v1 v2 v3).lookup ("end" : Str) = some v2 := by
  unfold pF
  rw [lookup_put, if_neg pF_n2_0, lookup_put, if_neg pF_n2_1, lookup_put, if_pos rfl]
theorem pF_put2 {v0 v1 v2 v3 z : V} : putF "end" z (pF v0 v1 v2 v3) = pF v0 v1 z v3 := by
  unfold pF
  simp only [putF, if_neg pF_n0_2, if_neg pF_n1_2, if_true]
theorem pF_get3 {v0 v1 v2 v3 : V} : (pF v0 v1 v2 v3).lookup ("words" : Str) = some v3 := by
  unfold pF
  rw [lookup_put, if_neg pF_n3_0, lookup_put, if_neg pF_n3_1, lookup_put, if_neg pF_n3_2, lookup_put, if_pos rfl]
theorem pF_put3 {v0 v1 v2 v3 z : V} : putF "words" z (pF v0 v1 v2 v3) = pF v0 v1 v2 z := by
  unfold pF
  simp only [putF, if_neg pF_n0_3, if_neg pF_n1_3, if_neg pF_n2_3, if_true]
theorem pF_make0 {v0 : V} : putF "answers" v0 ([] : List (Str × V)) = ([("answers", v0)] : List (Str × V)) := rfl
theorem pF_make1 {v0 v1 : V} : putF "pending" v1 ([("answers", v0)] : List (Str × V)) = ([("answers", v0), ("pending", v1)] : List (Str × V)) := by
  simp only [putF, if_neg pF_n0_1, if_true]
theorem pF_make2 {v0 v1 v2 : V} : putF "end" v2 ([("answers", v0), ("pending", v1)] : List (Str × V)) = ([("answers", v0), ("pending", v1), ("end", v2)] : List (Str × V)) := by
  simp only [putF, if_neg pF_n0_2, if_neg pF_n1_2, if_true]
theorem pF_make3 {v0 v1 v2 v3 : V} : putF "words" v3 ([("answers", v0), ("pending", v1), ("end", v2)] : List (Str × V)) = ([("answers", v0), ("pending", v1), ("end", v2), ("words", v3)] : List (Str × V)) := by
  simp only [putF, if_neg pF_n0_3, if_neg pF_n1_3, if_neg pF_n2_3, if_true]
theorem pF_no {v0 v1 v2 v3 : V} {m : Str} (h0 : ¬ m = ("answers" : Str)) (h1 : ¬ m = ("pending" : Str)) (h2 : ¬ m = ("end" : Str)) (h3 : ¬ m = ("words" : Str)) : (pF v0 v1 v2 v3).lookup m = none := by
  unfold pF
  rw [lookup_put, if_neg h0, lookup_put, if_neg h1, lookup_put, if_neg h2, lookup_put, if_neg h3]
  rfl

structure PTxt (K : PySem.W.Frag) (C : Addr) : Prop where
  cl : Cls K C
  answers : NoAttr K C "answers"
  pending : NoAttr K C "pending"
  end_ : NoAttr K C "end"
  words : NoAttr K C "words"
abbrev sPI : Stmt := inClass (top 28) 0
abbrev sRet : Stmt := top 29
abbrev sCome : Stmt := top 30
def spPI (C : Addr) : Sp := fun vs H Q _ => ∃ (pl dx : Addr) (a b c d : V), vs = [.ref pl, a, b, c, d] ∧ H pl = some (.ins C dx []) ∧ Q .non (upd H pl (.ins C dx (pF a b c d)))
/-- a work run with a hand: what it returns, or nothing where it is held -/
def spRet (P : Program) (w : World) (K : PySem.W.Frag) (mg : Str → Option Value) (base : Heap) (C CH : Addr) (kw : Nat) : Sp := fun vs H Q E => ∃ (g hd : Addr) (s1 : Sp), vs = [.ref g, .ref hd] ∧ FnR P w K mg base (L2.CX P w) kw g s1 ∧ PySem.W.FnAt g base ∧
  s1 [.ref hd] H Q (fun cls d H' => ∃ b, PySem.W.exmOne K cls (.ref CH) = some b ∧ (b = true → ∃ dx h, HandAt K C H' hd dx h ∧ h.halted = true ∧ Q .non H') ∧ (b = false → E cls d H'))
section
variable {P : Program} {w : World} {K : PySem.W.Frag} {mg : Str → Option Value} {base : Heap} {C CP CH : Addr}
theorem scPI : FnScope ["self", "answers", "pending", "end", "words"] ["self", "answers", "pending", "end", "words"] (defScope sPI) := ⟨rfl, rfl, rfl, by decide +kernel, rfl, by decide +kernel, by decide +kernel⟩
theorem ok_PI {f : Addr} {fd : FuncData} (F : Fun K "__init__" "Place.__init__" sPI f fd) (T : PTxt K CP) : FnOk P w K mg base CX0 1 f fd ["self", "answers", "pending", "end", "words"] (spPI CP) := by
  refine F.ok scPI (fun vs H Q E h => ?_) (fun cdv A outer s H vs Q E hr h => ?_)
  · obtain ⟨pl, dx, a, b, c, d, rfl, _⟩ := h
    rfl
  · obtain ⟨pl, dx, a, b, c, d, rfl, ho, k⟩ := h
    refine ⟨_, pss_cons (ps_fld (pv 0) (pv 1) rfl) (pss_cons (ps_fld (pv 0) (pv 2) rfl) (pss_cons (ps_fld (pv 0) (pv 3) rfl) (pss_one (ps_fld (pv 0) (pv 4) rfl)))), ?_⟩
    refine ⟨_, rfl, _, rfl, pl, CP, dx, _, rfl, ho, T.cl, T.answers, (by show 0 < 1000; decide), ?_⟩
    rw [pF_make0]
    refine ⟨_, rfl, _, rfl, pl, CP, dx, _, rfl, upd_same, T.cl, T.pending, (by show 1 < 1000; decide), ?_⟩
    rw [pF_make1, upd_upd]
    refine ⟨_, rfl, _, rfl, pl, CP, dx, _, rfl, upd_same, T.cl, T.end_, (by show 2 < 1000; decide), ?_⟩
    rw [pF_make2, upd_upd]
    refine ⟨_, rfl, _, rfl, pl, CP, dx, _, rfl, upd_same, T.cl, T.words, (by show 3 < 1000; decide), ?_⟩
    rw [pF_make3, upd_upd]
    exact k
theorem scRet : FnScope ["work", "hand"] ["work", "hand"] (defScope sRet) := ⟨rfl, rfl, rfl, by decide +kernel, rfl, by decide +kernel, by decide +kernel⟩
theorem ok_ret {f : Addr} {fd : FuncData} {kw : Nat} (F : Fun K "returned" "returned" sRet f fd) (T : HTxt K C) (mH : mg "Held" = some (.ref CH)) : FnOk P w K mg base (L2.CX P w) (kw + 1) f fd ["work", "hand"] (spRet P w K mg base C CH kw) := by
  refine F.okX scRet (fun vs H Q E h => ?_) (fun cdv A outer s H vs Q E hr h => ?_)
  · obtain ⟨g, hd, s1, rfl, _⟩ := h
    rfl
  · obtain ⟨g, hd, s1, rfl, hF, hA, hq⟩ := h
    refine ⟨_, pss_cons (ps_try_only (c := .ref CH) (tb := fun W => tRet (tCallW P w K mg base kw 0 (WE W) (tCons (tVar 1) tNil))) (ts := fun _ _ _ => tIfS (tNot (tB (tFld K (tVar 1) "halted"))) tNever tNext) (Wout := fun cls d _ H => E cls d H) rfl rfl ⟨rfl, by decide, .inl mH⟩ (takes_of (E := E) rfl rfl rfl rfl)
        (fun W pn xe tk _ => pss_one (ps_ret (pe_callWT hr rfl (.inl rfl) rfl (.inl rfl) tk)))
        (fun a oe cls d pn hz hf => by exact pss_one (ps_if (pt_not (pt_val (pe_fld (pv 1) rfl))) (pss_one ps_never) pss_nil)))
      (pss_one (ps_ret pe_non)), ?_⟩
    refine ⟨g, spUp s1, rfl, fnR_up hF, hA, _, rfl, _, _, hq, fun v H' k => k, fun cls d H' k => ?_⟩
    obtain ⟨b, e, k1, k2⟩ := k
    refine ⟨b, e, fun hb a ha => ?_, k2⟩
    obtain ⟨dx, h, hA, e2, k3⟩ := k1 hb
    refine ⟨_, rfl, hd, C, dx, _, _, rfl, hA.ob, T.cl, T.halted, hF_get8, _, rfl, ?_⟩
    rw [e2]
    exact iteF k3
end
end TW
namespace TW
open PySem PySem.Spec PyProof.Rows L2
theorem upd_free {H : Hp} {a b : Addr} {o : HO} (h : upd H a o b = none) : b ≠ a ∧ H b = none := by
  by_cases e : b = a
  · rw [e, upd_same] at h
    cases h
  · rw [upd_ne e] at h
    exact ⟨e, h⟩
/-- a new place behind a hand's end: what it holds -/
def AfterP (CP an : Addr) (Q : VK) (h : HS) (H : Hp) : Prop := ∀ (pl dp tw : Addr) (G : Hp), H pl = none → H dp = none → pl ≠ dp → pl ≠ tw → dp ≠ tw → Same H G → G pl = some (.ins CP dp (pF (.ref an) h.pend h.fin (.ref tw))) → G tw = some (.tup h.words) → Q (.ref pl) G
/-- a work is run anew: its hand is new, its end or its wish is told in a new place -/
def spCome (P : Program) (w : World) (K : PySem.W.Frag) (mg : Str → Option Value) (base : Heap) (C CS CP CH CV : Addr) (kw n : Nat) : Sp := fun vs H Q E => ∃ (sh an : Addr) (me : Nat) (ans : List V) (S : SS) (g : Addr) (s1 : Sp), vs = [.ref sh, .int (me : Int), .ref an] ∧ ShopAt K CS H sh S ∧ SqT K H an ans ∧
  S.works[me]? = some (.ref g) ∧ FnR P w K mg base (L2.CX P w) kw g s1 ∧ PySem.W.FnAt g base ∧
  ∀ (hd dx md wl : Addr) (G : Hp), H hd = none → H dx = none → H md = none → H wl = none → Same H G → HandAt K C G hd dx (hs0 (me : Int) sh an ans md wl) →
    spUp s1 [.ref hd] G
      (fun v H2 => ∃ h, HandAt K C H2 hd dx h ∧ (h.halted = true → AfterP CP an Q h H2) ∧ (h.halted = false → ∃ b, Vn K H2 n v b ∧ ∀ H3, Same H2 H3 → (b = false → EX E CV "value" v H3) ∧
        (b = true → ∀ t, H3 t = none → AfterP CP an Q { h with fin := .ref t } (upd (upd H3 t (.tup [.str "told", v])) hd (.ins C dx { h with fin := .ref t }.fs)))))
      (fun cls d H2 => ∃ b, PySem.W.exmOne K cls (.ref CH) = some b ∧ (b = true → ∃ h, HandAt K C H2 hd dx h ∧ h.halted = true ∧ AfterP CP an Q h H2) ∧ (b = false → E cls d H2))
abbrev sComeD : Stmt := top 30
section
variable {P : Program} {w : World} {K : PySem.W.Frag} {mg : Str → Option Value} {base : Heap} {C CS CP CH CV : Addr} {n kw : Nat}
theorem scCome : FnScope ["shop", "k", "answers", "hand", "value"] ["shop", "k", "answers"] (defScope sComeD) := ⟨rfl, rfl, rfl, by decide +kernel, rfl, by decide +kernel, by decide +kernel⟩
theorem ok_come {f fI fR fV fP : Addr} {fd fdI fdR fdV fdP : FuncData} (F : Fun K "come" "come" sComeD f fd) (B : Blt mg) (T : HTxt K C) (TS : STxt K CS)
    (MH : Mk K C fI) (GI : FnOk P w K mg base CX0 1 fI fdI ["self", "shop", "me", "answers"] (spHI K C)) (mHand : mg "Hand" = some (.ref C)) (bI : Binds K fdI ["self", "shop", "me", "answers"] [])
    (R : FnOk P w K mg base (L2.CX P w) (kw + 1) fR fdR ["work", "hand"] (spRet P w K mg base C CH kw)) (mR : mg "returned" = some (.ref fR)) (kR : PySem.W.keepIn K (.ref fR) = true) (bR : Binds K fdR ["work", "hand"] [])
    (V : FnOk P w K mg base (L2.CX P w) (n + 3) fV fdV ["given"] (spCkV K CV n)) (mV : mg "check_value" = some (.ref fV)) (kV : PySem.W.keepIn K (.ref fV) = true) (bV : Binds K fdV ["given"] [])
    (MP : Mk K CP fP) (GP : FnOk P w K mg base CX0 1 fP fdP ["self", "answers", "pending", "end", "words"] (spPI CP)) (mP : mg "Place" = some (.ref CP)) (bP : Binds K fdP ["self", "answers", "pending", "end", "words"] []) :
    FnOk P w K mg base (L2.CX P w) (kw + n + 4) f fd ["shop", "k", "answers"] (spCome P w K mg base C CS CP CH CV kw n) := by
  refine F.okX scCome (fun vs H Q E h => ?_) (fun cdv A outer s H vs Q E hr h => ?_)
  · obtain ⟨sh, an, me, ans, S, g, s1, rfl, _⟩ := h
    rfl
  · obtain ⟨sh, an, me, ans, S, g, s1, rfl, hS, ha, hw, hF, hA, k⟩ := h
    have hr2 : Room 2 _ := hr.mono (by omega)
    have hrR : Room (kw + 1) _ := hr.mono (by omega)
    have hrV : Room (n + 3) _ := hr.mono (by omega)
    refine ⟨_, pss_cons (ps_set (i := 3) scCome.nd rfl (.inl rfl) (pe_make MH GI hr2 rfl mHand bI .nil pass0 (pa_cons (pv 0) (pa_cons (pv 1) (pa_cons (pv 2) pa_nil)))))
      (pss_cons (ps_set (i := 4) scCome.nd rfl (.inl rfl) (pe_callS R hrR rfl mR kR bR (fun σ => passAt (takes_of (E := E) rfl rfl rfl rfl) σ) (pa_cons (pe_ix ix_tup (pe_fld (pv 0) rfl) (pv 1) (fun _ _ => rfl)) (pa_cons (pv 3) pa_nil))))
      (pss_cons (ps_if (pt_not (pt_val (pe_fld (pv 3) rfl)))
          (pss_cons (ps_expr (pe_callS V hrV rfl mV kV bV (fun σ => passAt (takes_of (E := E) rfl rfl rfl rfl) σ) (pa_cons (pv 4) pa_nil)))
          (pss_one (ps_fld (pv 3) (pe_tup (pa_cons pe_str (pa_cons (pv 4) pa_nil))) rfl))) pss_nil)
      (pss_one (ps_ret (pe_make MP GP hr2 rfl mP bP .nil pass0 (pa_cons (pv 2) (pa_cons (pe_fld (pv 3) rfl) (pa_cons (pe_fld (pv 3) rfl) (pa_cons (pe_callTy call_tuple_of (by rfl) B.tuple (by decide +kernel) (pa_cons (pe_fld (pv 3) rfl) pa_nil)) pa_nil))))))))), ?_⟩
    refine ⟨_, rfl, _, rfl, _, rfl, fun hd dx n1 n2 ne => ?_⟩
    have sQ : Same H (upd (upd H dx (.own hd)) hd (.ins C dx [])) := (same_new n2).trans (same_new (by rw [upd_ne (Ne.symm ne)]; exact n1))
    refine ⟨hd, dx, sh, an, (me : Int), ans, rfl, upd_same, seqT_same sQ ha, fun md wl G m1 m2 old hG => ⟨rfl, ?_⟩⟩
    have sG : Same H G := fun b o e => old b o (sQ b o e) (ne_of_none e n1)
    have hS1 := hS.same sG
    obtain ⟨Q0, E0, z1, z2, z3⟩ := k hd dx md wl G n1 n2 (upd_free (upd_free m1).2).2 (upd_free (upd_free m2).2).2 sG hG
    refine ⟨_, rfl, sh, CS, S.dx, _, _, rfl, hS1.ob, TS.cl, TS.works, sF_get0, _, rfl, S.wt, _, _, _, rfl, rfl, hS1.w, atI_nat hw, _, rfl, ?_⟩
    refine ⟨g, hd, spUp s1, rfl, fnR_up hF, hA, Q0, E0, z1, fun v H2 z => ?_, fun cls d H2 z => ?_⟩
    · obtain ⟨h, hA2, k1, k2⟩ := z2 v H2 z
      refine ⟨_, rfl, hd, C, dx, _, _, rfl, hA2.ob, T.cl, T.halted, hF_get8, _, rfl, ?_⟩
      cases e : h.halted with
      | true =>
        refine iteF ?_
        refine ⟨_, rfl, _, rfl, hd, C, dx, _, _, rfl, hA2.ob, T.cl, T.pending, hF_get6, _, rfl, hd, C, dx, _, _, rfl, hA2.ob, T.cl, T.end_, hF_get7, _, rfl, hd, C, dx, _, _, rfl, hA2.ob, T.cl, T.words, hF_get5, h.wl, h.words, rfl, .inl ⟨SqL.of hA2.w, fun tw htw pl dp p1 p2 ne => ?_⟩⟩
        refine ⟨pl, dp, _, _, _, _, rfl, upd_same, rfl, ?_⟩
        rw [upd_upd]
        have f1 := upd_free p1
        have f2 := upd_free p2
        exact k1 e pl dp tw _ f1.2 f2.2 (Ne.symm ne) f1.1 f2.1 (((same_new htw).trans (same_new p2)).trans (same_new (by rw [upd_ne (Ne.symm ne)]; exact p1))) upd_same (by rw [upd_ne (Ne.symm f1.1), upd_ne (Ne.symm f2.1)]; exact upd_same)
      | false =>
        refine iteT ?_
        obtain ⟨b, hV, k3⟩ := k2 e
        refine ⟨_, rfl, v, b, rfl, hV, fun H3 s3 => ⟨fun hb => ?_, fun hb => (k3 H3 s3).1 hb⟩⟩
        refine ⟨_, rfl, two_sz, fun t ht => ?_⟩
        have hA3 : HandAt K C (upd H3 t (.tup [.str "told", v])) hd dx h := hA2.same (s3.trans (same_new ht))
        refine ⟨_, rfl, hd, C, dx, _, rfl, hA3.ob, T.cl, T.end_, few9, ?_⟩
        have hA4 := hA3.set (h' := { h with fin := .ref t }) ⟨rfl, rfl, rfl, rfl, rfl, rfl⟩
        have k4 := (k3 H3 s3).2 hb t ht
        unfold HS.fs at hA4 k4 ⊢
        rw [hF_put7]
        refine ⟨_, rfl, _, rfl, hd, C, dx, _, _, rfl, hA4.ob, T.cl, T.pending, hF_get6, _, rfl, hd, C, dx, _, _, rfl, hA4.ob, T.cl, T.end_, hF_get7, _, rfl, hd, C, dx, _, _, rfl, hA4.ob, T.cl, T.words, hF_get5, h.wl, h.words, rfl, .inl ⟨SqL.of hA4.w, fun tw htw pl dp p1 p2 ne => ?_⟩⟩
        refine ⟨pl, dp, _, _, _, _, rfl, upd_same, rfl, ?_⟩
        rw [upd_upd]
        have f1 := upd_free p1
        have f2 := upd_free p2
        exact k4 pl dp tw _ f1.2 f2.2 (Ne.symm ne) f1.1 f2.1 (((same_new htw).trans (same_new p2)).trans (same_new (by rw [upd_ne (Ne.symm ne)]; exact p1))) upd_same (by rw [upd_ne (Ne.symm f1.1), upd_ne (Ne.symm f2.1)]; exact upd_same)
    · obtain ⟨b, e, k1, k2⟩ := z3 cls d H2 z
      refine ⟨b, e, fun hb => ?_, k2⟩
      obtain ⟨h, hA2, e2, k3⟩ := k1 hb
      refine ⟨dx, h, hA2, e2, ?_⟩
      refine ⟨_, rfl, hd, C, dx, _, _, rfl, hA2.ob, T.cl, T.halted, hF_get8, _, rfl, ?_⟩
      rw [e2]
      refine iteF ?_
      refine ⟨_, rfl, _, rfl, hd, C, dx, _, _, rfl, hA2.ob, T.cl, T.pending, hF_get6, _, rfl, hd, C, dx, _, _, rfl, hA2.ob, T.cl, T.end_, hF_get7, _, rfl, hd, C, dx, _, _, rfl, hA2.ob, T.cl, T.words, hF_get5, h.wl, h.words, rfl, .inl ⟨SqL.of hA2.w, fun tw htw pl dp p1 p2 ne => ?_⟩⟩
      refine ⟨pl, dp, _, _, _, _, rfl, upd_same, rfl, ?_⟩
      rw [upd_upd]
      have f1 := upd_free p1
      have f2 := upd_free p2
      exact k3 pl dp tw _ f1.2 f2.2 (Ne.symm ne) f1.1 f2.1 (((same_new htw).trans (same_new p2)).trans (same_new (by rw [upd_ne (Ne.symm ne)]; exact p1))) upd_same (by rw [upd_ne (Ne.symm f1.1), upd_ne (Ne.symm f2.1)]; exact upd_same)
end
end TW
namespace L2
open PySem PySem.Spec PyProof.Rows
section
variable {X : Cx}
/-- t + u of any tuples -/
def rCatT2 (K : PySem.W.Frag) : R2 := fun x y H Q => ∃ a b xs ys, x = .ref a ∧ y = .ref b ∧ SqT K H a xs ∧ SqT K H b ys ∧ xs.length + ys.length ≤ sizeLine ∧
  (xs = [] → Q (.ref b) H) ∧ (xs ≠ [] → ys = [] → Q (.ref a) H) ∧ (xs ≠ [] → ys ≠ [] → ∀ p, H p = none → Q (.ref p) (upd H p (.tup (xs ++ ys))))
theorem op_catT2 : OpR X (binaryOp .Add) (rCatT2 X.K) := by
  intro pins s σ H x y v u Q I rx ry h
  obtain ⟨a, b, xs, ys, ex, ey, ha, hb, hz, q0, q1, q2⟩ := h
  by_cases hx : xs = []
  · subst ex
    subst ey
    cases rx
    cases ry
    obtain ⟨its, r1, p1, _⟩ := I.tuple ha
    obtain ⟨its2, r2, p2, _⟩ := I.tuple hb
    have e : its = [] := r1.nil_iff.mpr hx
    subst e
    obtain ⟨⟨cls, dd, data, sl⟩, ho, hc, n, hd⟩ := id p1
    obtain ⟨⟨cls2, dd2, data2, sl2⟩, ho2, hc2, n2, hd2⟩ := id p2
    simp only at hc hd hc2 hd2
    subst hc hd hc2 hd2
    exact concat_meets ⟨_, ho, rfl⟩ ⟨_, ho2, rfl⟩ noFill_tuple_add seq_tuple_add PySem.F.slot_tuple_add PySem.F.entry_tuple_add (PySem.F.args_tuple_add_2 _ _)
      (tuple_addW0 a b _ its2.toArray n n2 dd dd2 sl sl2 (by simp)) ⟨ho, ho2, ⟨.ref b, H, I, rfl, q0 hx⟩⟩
  · exact op_catT pins s σ H x y v u Q I rx ry ⟨a, b, xs, ys, ex, ey, ha, hb, hx, hz, q1 hx, q2 hx⟩
end
end L2
namespace TW
open PySem PySem.Spec PyProof.Rows L2
theorem small_sz {n : Nat} (h : n ≤ 100000) : n ≤ sizeLine := by
  have e : (100000 : Nat) ≤ sizeLine := by
    rw [sizeLine_eq]
    decide
  exact Nat.le_trans h e
abbrev dLay (K : PySem.W.Frag) : TS → Int → Str → List V → Hp → VK → Prop := fun T _ s rest H Q => ∃ x l a row, rest = x :: l ∧ valV T.rows (Sum.inr s) = some (.ref a) ∧ SqT K H a row ∧ row.length ≤ 1000 ∧ T.rows.length < sizeLine ∧
  ∀ p H', Same H H' → SqT K H' p (row ++ [x]) → Q .non (upd H' T.rd (.dK (putK T.rows (Sum.inr s) (.ref p))))
abbrev dFetch (K : PySem.W.Frag) : TS → Int → Str → List V → Hp → VK → Prop := fun T _ s rest H Q => ∃ x a row, valV T.rows (Sum.inr s) = some (.ref a) ∧ SqT K H a (x :: row) ∧ row.length ≤ 1000 ∧ T.rows.length < sizeLine ∧
  ∀ p H', Same H H' → SqT K H' p row → Q x (upd H' T.rd (.dK (putK T.rows (Sum.inr s) (.ref p))))
def spNothing : Sp := fun vs H Q _ => ∃ a b c, vs = [a, b, c] ∧ Q .non H
section
variable {P : Program} {w : World} {K : PySem.W.Frag} {mg : Str → Option Value} {base : Heap} {C : Addr}
abbrev s_do_nothing : Stmt := top 37
theorem sc_do_nothing : FnScope ["things", "k", "wish"] ["things", "k", "wish"] (defScope s_do_nothing) := ⟨rfl, rfl, rfl, by decide +kernel, rfl, by decide +kernel, by decide +kernel⟩
theorem ok_do_nothing {f : Addr} {fd : FuncData} (F : Fun K "do_nothing" "do_nothing" s_do_nothing f fd) : FnOk P w K mg base CX0 1 f fd ["things", "k", "wish"] spNothing := by
  refine F.ok sc_do_nothing (fun vs H Q E h => ?_) (fun cdv A outer s H vs Q E hr h => ?_)
  · obtain ⟨a, b, c, rfl, _⟩ := h
    rfl
  · obtain ⟨a, b, c, rfl, hq⟩ := h
    exact ⟨_, pss_one (ps_ret pe_non), hq⟩
abbrev s_do_lay : Stmt := top 45
theorem sc_do_lay : FnScope ["things", "k", "wish"] ["things", "k", "wish"] (defScope s_do_lay) := ⟨rfl, rfl, rfl, by decide +kernel, rfl, by decide +kernel, by decide +kernel⟩
theorem ok_do_lay {f : Addr} {fd : FuncData} (F : Fun K "do_lay" "do_lay" s_do_lay f fd) (X : TTxt K C) : FnOk P w K mg base CX0 1 f fd ["things", "k", "wish"] (spStep K C (dLay K)) := by
  refine F.ok sc_do_lay (fun vs H Q E h => ?_) (fun cdv A outer s H vs Q E hr h => ?_)
  · obtain ⟨th, wt, k, T, word, nm, rest, rfl, _⟩ := h
    rfl
  · obtain ⟨th, wt, k, T, word, nm, rest, rfl, hT, hW, hq⟩ := h
    have hu := hu_of hr
    obtain ⟨x, l, a, row, rfl, e, hR, le, few, hq⟩ := hq
    refine ⟨_, pss_one (ps_dput hu (pe_fld (pv 0) rfl) (pe_ix ix_tup (pv 2) pe_int (fun _ _ => rfl)) (pe_op op_catT2 (pe_dget hu (pe_fld (pv 0) rfl) (pe_ix ix_tup (pv 2) pe_int (fun _ _ => rfl)) (fun _ _ => rfl)) (pe_tup (pa_cons (pe_ix ix_tup (pv 2) pe_int (fun _ _ => rfl)) pa_nil))) rfl), ?_⟩
    refine ⟨_, rfl, th, C, T.dx, _, _, rfl, hT.ob, X.cl, X.rows, tF_get2, _, rfl, wt, _, _, _, rfl, rfl, hW, atI_nat (j := 1) rfl, T.rd, _, rfl, e ▸ DGet.k (k := Sum.inr nm) hT.r, ?_⟩
    refine ⟨_, rfl, wt, _, _, _, rfl, rfl, hW, atI_nat (j := 2) rfl, small_sz (n := 1) (by decide), fun t ht => ?_⟩
    have s1 := same_new (o := HO.tup [x]) ht
    have go : ∀ p H', Same H H' → SqT K H' p (row ++ [x]) → H' th = some (.ins C T.dx (tF (.ref T.cd) (.ref T.hd) (.ref T.rd) (.ref T.sd))) ∧ SqT K H' wt (.str word :: .str nm :: x :: l) ∧ DPut H' T.rd (.str nm) (.ref p) (upd H' T.rd (.dK (putK T.rows (Sum.inr nm) (.ref p)))) := fun p H' sm q => ⟨sm _ _ hT.ob, seqT_same sm hW, DPut.k (k := Sum.inr nm) (sm _ _ hT.r) few⟩
    refine ⟨a, t, row, [x], rfl, rfl, seqT_same s1 hR, SqT.of upd_same, small_sz (by show row.length + 1 ≤ 100000; omega), fun z => ?_, fun _ y => (nomatch y), fun z y p hp => ?_⟩
    · subst z
      have q : SqT K (upd H t (.tup [x])) t ([] ++ [x]) := SqT.of upd_same
      obtain ⟨g1, g2, g3⟩ := go t _ s1 q
      exact ⟨_, rfl, th, C, T.dx, _, _, rfl, g1, X.cl, X.rows, tF_get2, _, rfl, wt, _, _, _, rfl, rfl, g2, atI_nat (j := 1) rfl, T.rd, _, rfl, g3, hq _ _ s1 q⟩
    · have s2 := s1.trans (same_new (o := HO.tup (row ++ [x])) hp)
      have q : SqT K (upd (upd H t (.tup [x])) p (.tup (row ++ [x]))) p (row ++ [x]) := SqT.of upd_same
      obtain ⟨g1, g2, g3⟩ := go p _ s2 q
      exact ⟨_, rfl, th, C, T.dx, _, _, rfl, g1, X.cl, X.rows, tF_get2, _, rfl, wt, _, _, _, rfl, rfl, g2, atI_nat (j := 1) rfl, T.rd, _, rfl, g3, hq _ _ s2 q⟩
abbrev s_do_fetch : Stmt := top 46
theorem sc_do_fetch : FnScope ["things", "k", "wish", "row"] ["things", "k", "wish"] (defScope s_do_fetch) := ⟨rfl, rfl, rfl, by decide +kernel, rfl, by decide +kernel, by decide +kernel⟩
theorem ok_do_fetch {f : Addr} {fd : FuncData} (F : Fun K "do_fetch" "do_fetch" s_do_fetch f fd) (X : TTxt K C) : FnOk P w K mg base CX0 1 f fd ["things", "k", "wish"] (spStep K C (dFetch K)) := by
  refine F.ok sc_do_fetch (fun vs H Q E h => ?_) (fun cdv A outer s H vs Q E hr h => ?_)
  · obtain ⟨th, wt, k, T, word, nm, rest, rfl, _⟩ := h
    rfl
  · obtain ⟨th, wt, k, T, word, nm, rest, rfl, hT, hW, hq⟩ := h
    have hu := hu_of hr
    obtain ⟨x, a, row, e, hR, le, few, hq⟩ := hq
    refine ⟨_, pss_cons (ps_set (i := 3) sc_do_fetch.nd rfl (.inl rfl) (pe_dget hu (pe_fld (pv 0) rfl) (pe_ix ix_tup (pv 2) pe_int (fun _ _ => rfl)) (fun _ _ => rfl)))
      (pss_cons (ps_dput hu (pe_fld (pv 0) rfl) (pe_ix ix_tup (pv 2) pe_int (fun _ _ => rfl)) (pe_slice sl_tup (pv 3) (po_some pe_int) po_none) rfl)
      (pss_one (ps_ret (pe_ix ix_tup (pv 3) pe_int (fun _ _ => rfl))))), ?_⟩
    refine ⟨_, rfl, th, C, T.dx, _, _, rfl, hT.ob, X.cl, X.rows, tF_get2, _, rfl, wt, _, _, _, rfl, rfl, hW, atI_nat (j := 1) rfl, T.rd, _, rfl, e ▸ DGet.k (k := Sum.inr nm) hT.r, ?_⟩
    have e0 : HT.sIx (x :: row).length 0 (some 1) = 1 := by
      show min 1 (row.length + 1) = 1
      omega
    have e1 : cutV (x :: row) (some 1) none = row := by
      unfold cutV
      rw [e0]
      show (List.take (row.length + 1 - 1) row) = row
      exact List.take_of_length_le (by omega)
    refine ⟨_, rfl, _, rfl, a, x :: row, rfl, hR, (fun z => by rw [e0] at z; exact absurd z.1 (by decide)), fun p hp => ?_⟩
    rw [e1]
    have sm := same_new (o := HO.tup row) hp
    have q : SqT K (upd H p (.tup row)) p row := SqT.of upd_same
    refine ⟨_, rfl, th, C, T.dx, _, _, rfl, sm _ _ hT.ob, X.cl, X.rows, tF_get2, _, rfl, wt, _, _, _, rfl, rfl, seqT_same sm hW, atI_nat (j := 1) rfl, T.rd, _, rfl, DPut.k (k := Sum.inr nm) (sm _ _ hT.r) few, ?_⟩
    have hR2 : SqT K (upd (upd H p (.tup row)) T.rd (.dK (putK T.rows (Sum.inr nm) (.ref p)))) a (x :: row) := by
      have z := seqT_same sm hR
      rcases z with (z | ⟨o, z⟩) | z
      · exact .inl (.inl (by rw [upd_ne (ne_of z (sm _ _ hT.r) (by intro y; cases y))]; exact z))
      · exact .inl (.inr ⟨o, by rw [upd_ne (ne_of z (sm _ _ hT.r) (by intro y; cases y))]; exact z⟩)
      · exact .inr z
    exact ⟨_, rfl, a, _, _, _, rfl, rfl, hR2, atI_nat (j := 0) rfl, hq p _ sm q⟩
abbrev s_do_step : Stmt := top 48
/-- a step, by its word -/
def spDoStep (K : PySem.W.Frag) (w : World) (pS : Addr) (S : Addr → Option Sp) : Sp := fun vs H Q _ => ∃ (th k : V) (wt f : Addr) (word : Str) (rest : List V) (sp : Sp), vs = [th, k, .ref wt] ∧ SqT K H wt (.str word :: rest) ∧ KDct K w pS word (.ref f) ∧ S f = some sp ∧ sp vs H Q (fun _ _ _ => False)
theorem sc_do_step : FnScope ["things", "k", "wish", "action"] ["things", "k", "wish"] (defScope s_do_step) := ⟨rfl, rfl, rfl, by decide +kernel, rfl, by decide +kernel, by decide +kernel⟩
theorem ok_do_step {f pS : Addr} {fd : FuncData} {k : Nat} {S : Addr → Option Sp} (F : Fun K "do_step" "do_step" s_do_step f fd) (mS : mg "STEPS" = some (.ref pS)) (A : ∀ f sp, S f = some sp → Held P w K mg base k f sp) : FnOk P w K mg base CX0 (k + 1) f fd ["things", "k", "wish"] (spDoStep K w pS S) := by
  refine F.ok sc_do_step (fun vs H Q E h => ?_) (fun cdv A' outer s H vs Q E hr h => ?_)
  · obtain ⟨th, k, wt, f, word, rest, sp, rfl, _⟩ := h
    rfl
  · obtain ⟨th, k, wt, f, word, rest, sp, rfl, hW, hK, hS, hq⟩ := h
    refine ⟨_, pss_cons (ps_set (i := 3) sc_do_step.nd rfl (.inl rfl) (pe_ix ix_kdict (pe_glob (v := .ref pS) rfl mS rfl) (pe_ix ix_tup (pv 2) pe_int (fun _ _ => rfl)) (fun _ _ => rfl)))
      (pss_one (ps_ret (pe_callA (i := 3) A hr rfl (.inl rfl) (pa_cons (pv 0) (pa_cons (pv 1) (pa_cons (pv 2) pa_nil)))))), ?_⟩
    exact ⟨_, rfl, wt, _, _, _, rfl, rfl, hW, atI_nat (j := 0) rfl, pS, word, .ref f, rfl, rfl, hK, f, sp, rfl, hS, _, rfl, _, rfl, _, rfl, hq⟩
end
end TW
namespace TW
open PySem PySem.Spec PyProof.Rows L2
abbrev sTI : Stmt := inClass (top 32) 0
abbrev sAgain : Stmt := top 34
abbrev sRoom : Stmt := top 35
abbrev sNeed : Stmt := top 36
def spTI (C : Addr) : Sp := fun vs H Q _ => ∃ (th dx : Addr) (a b c d : V), vs = [.ref th, a, b, c, d] ∧ H th = some (.ins C dx []) ∧ Q .non (upd H th (.ins C dx (tF a b c d)))
/-- new things as the old ones are -/
def spAgain (K : PySem.W.Frag) (C : Addr) : Sp := fun vs H Q _ => ∃ (th : Addr) (T : TS), vs = [.ref th] ∧ ThingsAt K C H th T ∧ ∀ (t2 dx cd hd rd : Addr) (G : Hp), H t2 = none → H dx = none → H cd = none → H hd = none → H rd = none → Same H G → ThingsAt K C G t2 { T with dx := dx, cd := cd, hd := hd, rd := rd } → Q (.ref t2) G
/-- whether a belt has room -/
def Roomy (K : PySem.W.Frag) (H : Hp) (T : TS) (s : Str) (b : Bool) : Prop := ∃ sz a row, valV T.sizes (Sum.inr s) = some sz ∧ valV T.rows (Sum.inr s) = some (.ref a) ∧ SqT K H a row ∧ ((sz = .non ∧ b = true) ∨ ∃ n : Int, sz = .int n ∧ b = decide ((row.length : Int) < n))
def spRoom (K : PySem.W.Frag) (C : Addr) : Sp := fun vs H Q _ => ∃ (th : Addr) (T : TS) (s : Str) (b : Bool), vs = [.ref th, .str s] ∧ ThingsAt K C H th T ∧ Roomy K H T s b ∧ Q (.bl b) H
/-- whether two values are the same, by a relation of the heap -/
def spSm (R : Hp → V → V → Bool → Prop) : Sp := fun vs H Q _ => ∃ (x y : V) (b : Bool), vs = [x, y] ∧ R H x y b ∧ ∀ H', Same H H' → Q (.bl b) H'
def Needs (K : PySem.W.Frag) (R : Hp → V → V → Bool → Prop) (H : Hp) (T : TS) (word : Str) (rest : List V) (b : Bool) : Prop :=
  (word = "until" → ∃ s x l v, rest = .str s :: x :: l ∧ valV T.cells (Sum.inr s) = some v ∧ R H v x b) ∧
  (word = "take" → ∃ s l v, rest = .str s :: l ∧ valV T.holders (Sum.inr s) = some v ∧ b = decide (v = .non)) ∧
  (word = "lay" → ∃ s l, rest = .str s :: l ∧ Roomy K H T s b) ∧
  (word = "fetch" → ∃ s l a row, rest = .str s :: l ∧ valV T.rows (Sum.inr s) = some (.ref a) ∧ SqT K H a row ∧ b = decide (0 < row.length)) ∧
  (word ≠ "until" → word ≠ "take" → word ≠ "lay" → word ≠ "fetch" → b = true)
def spNeed (K : PySem.W.Frag) (C : Addr) (R : Hp → V → V → Bool → Prop) : Sp := fun vs H Q _ => ∃ (th wt : Addr) (T : TS) (word : Str) (rest : List V) (b : Bool), vs = [.ref th, .ref wt] ∧ ThingsAt K C H th T ∧ SqT K H wt (.str word :: rest) ∧ Needs K R H T word rest b ∧ ∀ H', Same H H' → Q (.bl b) H'
section
variable {P : Program} {w : World} {K : PySem.W.Frag} {mg : Str → Option Value} {base : Heap} {C : Addr}
theorem scTI : FnScope ["self", "cells", "holders", "rows", "sizes"] ["self", "cells", "holders", "rows", "sizes"] (defScope sTI) := ⟨rfl, rfl, rfl, by decide +kernel, rfl, by decide +kernel, by decide +kernel⟩
theorem ok_TI {f : Addr} {fd : FuncData} (F : Fun K "__init__" "Things.__init__" sTI f fd) (T : TTxt K C) : FnOk P w K mg base CX0 1 f fd ["self", "cells", "holders", "rows", "sizes"] (spTI C) := by
  refine F.ok scTI (fun vs H Q E h => ?_) (fun cdv A outer s H vs Q E hr h => ?_)
  · obtain ⟨pl, dx, a, b, c, d, rfl, _⟩ := h
    rfl
  · obtain ⟨pl, dx, a, b, c, d, rfl, ho, k⟩ := h
    refine ⟨_, pss_cons (ps_fld (pv 0) (pv 1) rfl) (pss_cons (ps_fld (pv 0) (pv 2) rfl) (pss_cons (ps_fld (pv 0) (pv 3) rfl) (pss_one (ps_fld (pv 0) (pv 4) rfl)))), ?_⟩
    refine ⟨_, rfl, _, rfl, pl, C, dx, _, rfl, ho, T.cl, T.cells, (by show 0 < 1000; decide), ?_⟩
    rw [tF_make0]
    refine ⟨_, rfl, _, rfl, pl, C, dx, _, rfl, upd_same, T.cl, T.holders, (by show 1 < 1000; decide), ?_⟩
    rw [tF_make1, upd_upd]
    refine ⟨_, rfl, _, rfl, pl, C, dx, _, rfl, upd_same, T.cl, T.rows, (by show 2 < 1000; decide), ?_⟩
    rw [tF_make2, upd_upd]
    refine ⟨_, rfl, _, rfl, pl, C, dx, _, rfl, upd_same, T.cl, T.sizes, (by show 3 < 1000; decide), ?_⟩
    rw [tF_make3, upd_upd]
    exact k
theorem scAgain : FnScope ["things"] ["things"] (defScope sAgain) := ⟨rfl, rfl, rfl, by decide +kernel, rfl, by decide +kernel, by decide +kernel⟩
theorem ok_again {f fI : Addr} {fd fdI : FuncData} (F : Fun K "things_again" "things_again" sAgain f fd) (B : Blt mg) (X : TTxt K C) (M : Mk K C fI) (G : FnOk P w K mg base CX0 1 fI fdI ["self", "cells", "holders", "rows", "sizes"] (spTI C)) (mT : mg "Things" = some (.ref C)) (bI : Binds K fdI ["self", "cells", "holders", "rows", "sizes"] []) :
    FnOk P w K mg base CX0 3 f fd ["things"] (spAgain K C) := by
  refine F.ok scAgain (fun vs H Q E h => ?_) (fun cdv A outer s H vs Q E hr h => ?_)
  · obtain ⟨th, T, rfl, _⟩ := h
    rfl
  · obtain ⟨th, T, rfl, hT, k⟩ := h
    have hr2 : Room 2 _ := hr.mono (by omega)
    refine ⟨_, pss_one (ps_ret (pe_make M G hr2 rfl mT bI .nil pass0 (pa_cons (pe_callTy call_dictD (by rfl) B.dict (by decide +kernel) (pa_cons (pe_fld (pv 0) rfl) pa_nil)) (pa_cons (pe_callTy call_dictD (by rfl) B.dict (by decide +kernel) (pa_cons (pe_fld (pv 0) rfl) pa_nil))
      (pa_cons (pe_callTy call_dictD (by rfl) B.dict (by decide +kernel) (pa_cons (pe_fld (pv 0) rfl) pa_nil)) (pa_cons (pe_fld (pv 0) rfl) pa_nil)))))), ?_⟩
    refine ⟨_, rfl, th, C, T.dx, _, _, rfl, hT.ob, X.cl, X.cells, tF_get0, T.cd, T.cells, rfl, .inl hT.c, fun cd n1 => ?_⟩
    have s1 := same_new (o := HO.dK T.cells) n1
    refine ⟨_, rfl, th, C, T.dx, _, _, rfl, s1 _ _ hT.ob, X.cl, X.holders, tF_get1, T.hd, T.holders, rfl, .inl (s1 _ _ hT.h), fun hd n2 => ?_⟩
    have s2 := s1.trans (same_new (o := HO.dK T.holders) n2)
    refine ⟨_, rfl, th, C, T.dx, _, _, rfl, s2 _ _ hT.ob, X.cl, X.rows, tF_get2, T.rd, T.rows, rfl, .inl (s2 _ _ hT.r), fun rd n3 => ?_⟩
    have s3 := s2.trans (same_new (o := HO.dK T.rows) n3)
    refine ⟨_, rfl, th, C, T.dx, _, _, rfl, s3 _ _ hT.ob, X.cl, X.sizes, tF_get3, fun t2 dx n4 n5 ne => ?_⟩
    refine ⟨t2, dx, _, _, _, _, rfl, upd_same, rfl, ?_⟩
    rw [upd_upd]
    have f5 : upd (upd (upd (upd H cd (.dK T.cells)) hd (.dK T.holders)) rd (.dK T.rows)) dx (.own t2) t2 = none := by
      rw [upd_ne (Ne.symm ne)]
      exact n4
    have s5 : ∀ o, Same (upd (upd (upd H cd (.dK T.cells)) hd (.dK T.holders)) rd (.dK T.rows)) (upd (upd (upd (upd (upd H cd (.dK T.cells)) hd (.dK T.holders)) rd (.dK T.rows)) dx (.own t2)) t2 o) := fun o => (same_new n5).trans (same_new f5)
    have e3 := upd_free n4
    have e2 := upd_free e3.2
    have e1 := upd_free e2.2
    have d3 := upd_free n5
    have d2 := upd_free d3.2
    have d1 := upd_free d2.2
    have c2 := upd_free n3
    have c1 := upd_free c2.2
    have b1 := upd_free n2
    refine k t2 dx cd hd rd _ e1.2 d1.2 n1 b1.2 c1.2 (s3.trans (s5 _)) ⟨upd_same, s5 _ _ _ ?_, s5 _ _ _ ?_, s5 _ _ _ upd_same, (s3.trans (s5 _)) _ _ hT.s⟩
    · show upd (upd (upd H cd (.dK T.cells)) hd (.dK T.holders)) rd (.dK T.rows) cd = some (.dK T.cells)
      rw [upd_ne (Ne.symm c1.1), upd_ne (Ne.symm b1.1)]
      exact upd_same
    · show upd (upd (upd H cd (.dK T.cells)) hd (.dK T.holders)) rd (.dK T.rows) hd = some (.dK T.holders)
      rw [upd_ne (Ne.symm c2.1)]
      exact upd_same
theorem scRoom : FnScope ["things", "belt", "size"] ["things", "belt"] (defScope sRoom) := ⟨rfl, rfl, rfl, by decide +kernel, rfl, by decide +kernel, by decide +kernel⟩
theorem ok_room {f : Addr} {fd : FuncData} (F : Fun K "has_room" "has_room" sRoom f fd) (B : Blt mg) (X : TTxt K C) : FnOk P w K mg base CX0 1 f fd ["things", "belt"] (spRoom K C) := by
  refine F.ok scRoom (fun vs H Q E h => ?_) (fun cdv A outer s H vs Q E hr h => ?_)
  · obtain ⟨th, T, s, b, rfl, _⟩ := h
    rfl
  · obtain ⟨th, T, nm, b, rfl, hT, ⟨sz, a, row, e1, e2, hR, hk⟩, hq⟩ := h
    have hu := hu_of hr
    refine ⟨_, pss_cons (ps_set (i := 2) scRoom.nd rfl (.inl rfl) (pe_dget hu (pe_fld (pv 0) rfl) (pv 1) (fun _ _ => rfl)))
      (pss_one (ps_ret (pe_or (pe_cmpR op_isN (pv 2) pe_non (nomark _)) (pe_one (pe_cmpR op_lt (pe_callB call_len_seq (by rfl) B.len PySem.boot_len (pa_cons (pe_dget hu (pe_fld (pv 0) rfl) (pv 1) (fun _ _ => rfl)) pa_nil)) (pv 2) (nomark _)))))), ?_⟩
    refine ⟨_, rfl, th, C, T.dx, _, _, rfl, hT.ob, X.cl, X.sizes, tF_get3, _, rfl, T.sd, sz, rfl, e1 ▸ DGet.k (k := Sum.inr nm) hT.s, _, rfl, rfl, _, rfl, ?_⟩
    rcases hk with ⟨rfl, rfl⟩ | ⟨n, rfl, rfl⟩
    · exact iteT hq
    · refine iteF ?_
      exact ⟨_, rfl, th, C, T.dx, _, _, rfl, hT.ob, X.cl, X.rows, tF_get2, _, rfl, T.rd, _, rfl, e2 ▸ DGet.k (k := Sum.inr nm) hT.r, a, _, rfl, .inr hR, _, rfl, _, _, rfl, rfl, hq⟩
end
end TW
namespace TW
open PySem PySem.Spec PyProof.Rows L2
section
variable {P : Program} {w : World} {K : PySem.W.Frag} {mg : Str → Option Value} {base : Heap} {C : Addr} {n : Nat}
theorem scNeed : FnScope ["things", "wish", "word"] ["things", "wish"] (defScope sNeed) := ⟨rfl, rfl, rfl, by decide +kernel, rfl, by decide +kernel, by decide +kernel⟩
theorem ok_need {f fS fR : Addr} {fd fdS fdR : FuncData} {R : Hp → V → V → Bool → Prop} (F : Fun K "need_not_wait" "need_not_wait" sNeed f fd) (B : Blt mg) (X : TTxt K C)
    (S : FnOk P w K mg base CX0 (n + 1) fS fdS ["one", "other"] (spSm R)) (mS : mg "same" = some (.ref fS)) (kS : PySem.W.keepIn K (.ref fS) = true) (bS : Binds K fdS ["one", "other"] [])
    (G : FnOk P w K mg base CX0 1 fR fdR ["things", "belt"] (spRoom K C)) (mG : mg "has_room" = some (.ref fR)) (kG : PySem.W.keepIn K (.ref fR) = true) (bG : Binds K fdR ["things", "belt"] []) :
    FnOk P w K mg base CX0 (n + 2) f fd ["things", "wish"] (spNeed K C R) := by
  refine F.ok scNeed (fun vs H Q E h => ?_) (fun cdv A outer s H vs Q E hr h => ?_)
  · obtain ⟨th, wt, T, word, rest, b, rfl, _⟩ := h
    rfl
  · obtain ⟨th, wt, T, word, rest, b, rfl, hT, hW, ⟨k1, k2, k3, k4, k5⟩, hq⟩ := h
    have hu := hu_of hr
    have hrS : Room (n + 1) _ := hr.mono (by omega)
    have hr1 : Room 1 _ := hr.mono (by omega)
    refine ⟨_, pss_cons (ps_set (i := 2) scNeed.nd rfl (.inl rfl) (pe_ix ix_tup (pv 1) pe_int (fun _ _ => rfl)))
      (pss_cons (ps_if (pt_cmpR op_eq (pv 2) pe_str (nomark _)) (pss_one (ps_ret (pe_call S hrS rfl mS kS bS .nil pass0 (pa_cons (pe_dget hu (pe_fld (pv 0) rfl) (pe_ix ix_tup (pv 1) pe_int (fun _ _ => rfl)) (fun _ _ => rfl)) (pa_cons (pe_ix ix_tup (pv 1) pe_int (fun _ _ => rfl)) pa_nil))))) pss_nil)
      (pss_cons (ps_if (pt_cmpR op_eq (pv 2) pe_str (nomark _)) (pss_one (ps_ret (pe_cmpR op_isN (pe_dget hu (pe_fld (pv 0) rfl) (pe_ix ix_tup (pv 1) pe_int (fun _ _ => rfl)) (fun _ _ => rfl)) pe_non (nomark _)))) pss_nil)
      (pss_cons (ps_if (pt_cmpR op_eq (pv 2) pe_str (nomark _)) (pss_one (ps_ret (pe_call G hr1 rfl mG kG bG .nil pass0 (pa_cons (pv 0) (pa_cons (pe_ix ix_tup (pv 1) pe_int (fun _ _ => rfl)) pa_nil))))) pss_nil)
      (pss_cons (ps_if (pt_cmpR op_eq (pv 2) pe_str (nomark _)) (pss_one (ps_ret (pe_cmpR op_gt (pe_callB call_len_seq (by rfl) B.len PySem.boot_len (pa_cons (pe_dget hu (pe_fld (pv 0) rfl) (pe_ix ix_tup (pv 1) pe_int (fun _ _ => rfl)) (fun _ _ => rfl)) pa_nil)) pe_int (nomark _)))) pss_nil)
      (pss_one (ps_ret pe_bl)))))), ?_⟩
    refine ⟨_, rfl, wt, _, _, _, rfl, rfl, hW, atI_nat (j := 0) rfl, _, rfl, rfl, _, rfl, ?_⟩
    by_cases c1 : word = "until"
    · rw [decide_eq_true (by rw [c1])]
      refine iteT ?_
      obtain ⟨nm, x, l, v, rfl, e, hR⟩ := k1 c1
      exact ⟨_, rfl, th, C, T.dx, _, _, rfl, hT.ob, X.cl, X.cells, tF_get0, _, rfl, wt, _, _, _, rfl, rfl, hW, atI_nat (j := 1) rfl, T.cd, v, rfl, e ▸ DGet.k (k := Sum.inr nm) hT.c, _, rfl, wt, _, _, _, rfl, rfl, hW, atI_nat (j := 2) rfl, v, x, b, rfl, hR, hq⟩
    rw [decide_eq_false (fun z => c1 (V.str.inj z))]
    refine iteF ?_
    refine ⟨_, rfl, rfl, _, rfl, ?_⟩
    by_cases c2 : word = "take"
    · rw [decide_eq_true (by rw [c2])]
      refine iteT ?_
      obtain ⟨nm, l, v, rfl, e, rfl⟩ := k2 c2
      exact ⟨_, rfl, th, C, T.dx, _, _, rfl, hT.ob, X.cl, X.holders, tF_get1, _, rfl, wt, _, _, _, rfl, rfl, hW, atI_nat (j := 1) rfl, T.hd, v, rfl, e ▸ DGet.k (k := Sum.inr nm) hT.h, rfl, hq _ (Same.refl _)⟩
    rw [decide_eq_false (fun z => c2 (V.str.inj z))]
    refine iteF ?_
    refine ⟨_, rfl, rfl, _, rfl, ?_⟩
    by_cases c3 : word = "lay"
    · rw [decide_eq_true (by rw [c3])]
      refine iteT ?_
      obtain ⟨nm, l, rfl, hR⟩ := k3 c3
      exact ⟨_, rfl, _, rfl, wt, _, _, _, rfl, rfl, hW, atI_nat (j := 1) rfl, th, T, nm, b, rfl, hT, hR, hq _ (Same.refl _)⟩
    rw [decide_eq_false (fun z => c3 (V.str.inj z))]
    refine iteF ?_
    refine ⟨_, rfl, rfl, _, rfl, ?_⟩
    by_cases c4 : word = "fetch"
    · rw [decide_eq_true (by rw [c4])]
      refine iteT ?_
      obtain ⟨nm, l, a, row, rfl, e, hR, rfl⟩ := k4 c4
      refine ⟨_, rfl, th, C, T.dx, _, _, rfl, hT.ob, X.cl, X.rows, tF_get2, _, rfl, wt, _, _, _, rfl, rfl, hW, atI_nat (j := 1) rfl, T.rd, _, rfl, e ▸ DGet.k (k := Sum.inr nm) hT.r, a, _, rfl, .inr hR, _, _, rfl, rfl, ?_⟩
      have z := hq _ (Same.refl _)
      have e0 : decide ((0 : Int) < (row.length : Int)) = decide (0 < row.length) := by
        by_cases c : 0 < row.length
        · rw [decide_eq_true c, decide_eq_true (by omega)]
        · rw [decide_eq_false c, decide_eq_false (by omega)]
      rw [← e0] at z
      exact z
    rw [decide_eq_false (fun z => c4 (V.str.inj z))]
    refine iteF ?_
    have e := k5 c1 c2 c3 c4
    subst e
    exact hq _ (Same.refl _)
abbrev s_do_trade : Stmt := top 41
abbrev dTrade (R : Hp → V → V → Bool → Prop) : TS → Int → Str → List V → Hp → VK → Prop := fun T _ s rest H Q => ∃ x y l v b, rest = x :: y :: l ∧ valV T.cells (Sum.inr s) = some v ∧ T.cells.length < sizeLine ∧ R H v x b ∧ ∀ H', Same H H' → (b = false → Q (.bl false) H') ∧ (b = true → Q (.bl true) (upd H' T.cd (.dK (putK T.cells (Sum.inr s) y))))
theorem sc_do_trade : FnScope ["things", "k", "wish"] ["things", "k", "wish"] (defScope s_do_trade) := ⟨rfl, rfl, rfl, by decide +kernel, rfl, by decide +kernel, by decide +kernel⟩
theorem ok_do_trade {f fS : Addr} {fd fdS : FuncData} {R : Hp → V → V → Bool → Prop} (F : Fun K "do_trade" "do_trade" s_do_trade f fd) (X : TTxt K C)
    (S : FnOk P w K mg base CX0 (n + 1) fS fdS ["one", "other"] (spSm R)) (mS : mg "same" = some (.ref fS)) (kS : PySem.W.keepIn K (.ref fS) = true) (bS : Binds K fdS ["one", "other"] []) : FnOk P w K mg base CX0 (n + 2) f fd ["things", "k", "wish"] (spStep K C (dTrade R)) := by
  refine F.ok sc_do_trade (fun vs H Q E h => ?_) (fun cdv A outer s H vs Q E hr h => ?_)
  · obtain ⟨th, wt, k, T, word, nm, rest, rfl, _⟩ := h
    rfl
  · obtain ⟨th, wt, k, T, word, nm, rest, rfl, hT, hW, hq⟩ := h
    have hu := hu_of hr
    have hrS : Room (n + 1) _ := hr.mono (by omega)
    obtain ⟨x, y, l, v, b, rfl, e, few, hR, hq⟩ := hq
    refine ⟨_, pss_cons (ps_if (pt_not (pt_val (pe_call S hrS rfl mS kS bS .nil pass0 (pa_cons (pe_dget hu (pe_fld (pv 0) rfl) (pe_ix ix_tup (pv 2) pe_int (fun _ _ => rfl)) (fun _ _ => rfl)) (pa_cons (pe_ix ix_tup (pv 2) pe_int (fun _ _ => rfl)) pa_nil))))) (pss_one (ps_ret pe_bl)) pss_nil)
      (pss_cons (ps_dput hu (pe_fld (pv 0) rfl) (pe_ix ix_tup (pv 2) pe_int (fun _ _ => rfl)) (pe_ix ix_tup (pv 2) pe_int (fun _ _ => rfl)) rfl) (pss_one (ps_ret pe_bl))), ?_⟩
    refine ⟨_, rfl, th, C, T.dx, _, _, rfl, hT.ob, X.cl, X.cells, tF_get0, _, rfl, wt, _, _, _, rfl, rfl, hW, atI_nat (j := 1) rfl, T.cd, v, rfl, e ▸ DGet.k (k := Sum.inr nm) hT.c, _, rfl, wt, _, _, _, rfl, rfl, hW, atI_nat (j := 2) rfl, v, x, b, rfl, hR, fun H' sm => ⟨_, rfl, ?_⟩⟩
    cases b with
    | false => exact iteT ((hq H' sm).1 rfl)
    | true =>
      refine iteF ?_
      exact ⟨_, rfl, wt, _, _, _, rfl, rfl, seqT_same sm hW, atI_nat (j := 3) rfl, _, rfl, th, C, T.dx, _, _, rfl, sm _ _ hT.ob, X.cl, X.cells, tF_get0, _, rfl, wt, _, _, _, rfl, rfl, seqT_same sm hW, atI_nat (j := 1) rfl, T.cd, _, rfl, DPut.k (k := Sum.inr nm) (sm _ _ hT.c) few, (hq H' sm).2 rfl⟩
end
end TW
namespace L2
open PySem PySem.Spec PyProof.Rows
/-- a dict comprehension over a dict's keys -/
theorem dc_keys {d D : Addr} {o : Obj} {kvs : List (Key × V)} {g : TG} {tt : TT} {tk tv : TE} {vs : List Nat} {σ : St} {H1 : Hp} {Qd : Hp → Prop} (Pv : Nat → Hp → Prop) (h0 : Pv 0 (upd H1 D (.dK []))) (hl : ∀ i H, i ≤ kvs.length → Pv i H → H d = some (.frz o (.dK kvs)))
    (hs : ∀ i k v H, kvs[i]? = some (k, v) → Pv i H → g (kV k) (wipe σ vs) H fun σ2 H2 => wipe σ2 vs = wipe σ vs ∧ tt σ2 H2 fun b H3 =>
      if b = true then tk σ2 H3 fun y H4 => tv σ2 H4 fun z H5 => ∃ kvs k, y = kV k ∧ H5 D = some (.dK kvs) ∧ kvs.length < sizeLine ∧ Pv (i + 1) (upd H5 D (.dK (putK kvs k z))) else Pv (i + 1) H3) (hd : ∀ H, Pv kvs.length H → Qd H) :
    ∃ W : Nat → Nat → Hp → Prop, (∃ m, W 0 m (upd H1 D (.dK []))) ∧ ∀ i m H, W i m H →
      ((Itk d o kvs).stop i H ∧ Qd H) ∨ ((Itk d o kvs).go i H ∧ ∃ Nx : Hp → Prop, (∀ H', Nx H' → ∃ m', m' < m ∧ W (i + 1) m' H') ∧ ∀ x H', (Itk d o kvs).yld i H x H' → g x (wipe σ vs) H' fun σ2 H2 => wipe σ2 vs = wipe σ vs ∧ tt σ2 H2 fun b H3 =>
        if b = true then tk σ2 H3 fun y H4 => tv σ2 H4 fun z H5 => ∃ kvs k, y = kV k ∧ H5 D = some (.dK kvs) ∧ kvs.length < sizeLine ∧ Nx (upd H5 D (.dK (putK kvs k z))) else Nx H3) := by
  refine ⟨fun i m H => m = kvs.length - i ∧ i ≤ kvs.length ∧ Pv i H, ⟨kvs.length, by simp, Nat.zero_le _, h0⟩, ?_⟩
  rintro i m H ⟨rfl, hi, p⟩
  have q := hl i H hi p
  by_cases hlt : i < kvs.length
  · refine .inr ⟨⟨q, hlt⟩, Pv (i + 1), fun H' p' => ⟨kvs.length - (i + 1), by omega, rfl, hlt, p'⟩, fun x H' y => ?_⟩
    obtain ⟨e, k, v, e2, rfl⟩ := y
    subst e
    exact hs i k v _ e2 p
  · have e : i = kvs.length := by omega
    subst e
    exact .inl ⟨⟨q, Nat.le_refl _⟩, hd H p⟩
section
variable {X : Cx}
/-- x = {k: v for ..} on one line, x a local name -/
theorem ps_setDc {i : Nat} {y : Str} {py : Pos} {kx vx tg iter : Expr} {ifs : List Expr} {scope : Scope} {own : List (Str × Nat)} {pos spos : Pos} {wi : TI} {g : TG} {tt : TT} {tk tv : TE} (hc : X.calm = true) (hN : X.N.Nodup) (hy : X.N[i]? = some y) (hyl : X.env.scope.names.lookup y = some .local)
    (hsw : swapsWith (.DictComp kx vx [⟨tg, iter, ifs, 0⟩] scope pos) (some (.Name y py)) spos.line X.env = pure true) (hi : PI X tg iter wi) (ok : BlkOk X.N X.env.scope scope own)
    (hg : ∀ (s : Shared) (H : Hp) (C : Addr) (cl : List (Str × Addr)) (fp : List Addr), PG (X.blk s H scope (compEnvC scope cl C X.env) fp) tg g) (ht : ∀ (s : Shared) (H : Hp) (C : Addr) (cl : List (Str × Addr)) (fp : List Addr), PTs (X.blk s H scope (compEnvC scope cl C X.env) fp) ifs tt)
    (hk : ∀ (s : Shared) (H : Hp) (C : Addr) (cl : List (Str × Addr)) (fp : List Addr), PE (X.blk s H scope (compEnvC scope cl C X.env) fp) kx tk)
    (he : ∀ (s : Shared) (H : Hp) (C : Addr) (cl : List (Str × Addr)) (fp : List Addr), PE (X.blk s H scope (compEnvC scope cl C X.env) fp) vx tv) (hs : ∀ x, foldedSetIterable iter X.env x = pure x := by intro _; rfl) :
    PS X (.Assign [.Name y py] (.DictComp kx vx [⟨tg, iter, ifs, 0⟩] scope pos) spos) (tAsg (tDc wi g tt tk tv (own.map (·.2))) (gName i)) := by
  refine ⟨fun pins s σ H D I h => ?_⟩
  rw [exec_Assign_Name_used _ _ _ _ hsw]
  refine wpAny_bind (wpAny_standAt (wpAny_bind ?_))
  show wpAny _ X.A (do let _ ← comprehension (.DictComp kx vx [⟨tg, iter, ifs, 0⟩] scope pos) scope X.env (firstIterPos [⟨tg, iter, ifs, 0⟩] pos) newDict false (eval iter X.env) (some (assign (.Name y py) X.env))) _ _ s
  have h : tDc wi g tt tk tv (own.map (·.2)) σ H (fun x H1 => gName i x σ H1 D.nx) := h
  refine wpAny_bind (thn (dc_core (Qf := fun _ s' => SP X pins D .next s') hc hN I hi ok hg ht hk he hs h fun L C s' m H' I' q hn f => ?_) fun _ s' hq => wpAny_pure (wpAny_pure hq))
  show wpAny _ _ (assign (.Name y py) X.env (.ref L)) _ _ _
  refine wpAny_assign_Name (store_ok2 (v := V.ref L) I' hN hy (.inl hyl) rfl (fun s2 I2 ⟨a, sb, ha⟩ => ?_) (.inr hyl))
  obtain ⟨f0, f1, f2, f3, f4, f5⟩ := f
  have other : C ≠ a := by
    rcases ha with z | z
    · exact z ▸ f1
    · exact fun e => f4 y a z e.symm
  exact ⟨m, hn.sameBut sb other, fun h3 sb3 => ⟨_, H', I2.turned (t' := s2.toks) (fun b o hb e => (sb3.2 b hb).trans e) f0 f1 f3 f4 f5, q⟩⟩
theorem sw_dc {kx vx : Expr} {gs : List Comprehension} {scope : Scope} {pos py : Pos} {y : Str} {l : Nat} {env : Env} (hk : env.scope.kind = .function) (hy : env.scope.names.lookup y = some .local) (hl : (py.line == pos.line) = true)
    (ha : (scope.names.any fun (n, k) => n == y && (k == .local || k == .cell)) = false) : swapsWith (.DictComp kx vx gs scope pos) (some (.Name y py)) l env = pure true := by
  have ky : env.kindOf y = some .local := hy
  have hb : env.blockKind = .function := by
    unfold Env.blockKind
    rw [hk]
    rfl
  unfold swapsWith
  simp only [hb, ky, ha, Expr.pos, hl]
  rfl
end
end L2
namespace TW
open PySem PySem.Spec PyProof.Rows L2
abbrev sFirst : Stmt := top 33
/-- the things of a shop, new -/
def spFirst (K : PySem.W.Frag) (CS C : Addr) : Sp := fun vs H Q _ => ∃ (sh : Addr) (S : SS), vs = [.ref sh] ∧ ShopAt K CS H sh S ∧ S.locks.Nodup ∧ S.beltN.Nodup ∧ S.locks.length ≤ 1000 ∧ S.belts.length ≤ 1000 ∧
  ∀ (t2 dx cd hd rd : Addr) (rows : List (Key × V)) (G : Hp), H t2 = none → H cd = none → H hd = none → H rd = none → Same H G →
    ThingsAt K C G t2 ⟨dx, cd, S.cells, hd, S.locks.map (fun s => (Sum.inr s, V.non)), rd, rows, S.bd, S.belts⟩ → rows.map (·.1) = S.beltN.map Sum.inr → (∀ p ∈ rows, ∃ a, p.2 = .ref a ∧ SqT K G a []) → Q (.ref t2) G
theorem valV_none {l : List (Key × V)} {k : Key} (h : k ∉ l.map (·.1)) : valV l k = none := by
  induction l with
  | nil => rfl
  | cons p r ih =>
    rw [List.map_cons, List.mem_cons, not_or] at h
    rw [valV_neg (fun z => h.1 z.symm)]
    exact ih h.2
/-- the keys of the first i names, one more -/
theorem fresh_key {l : List Str} {i : Nat} {s : Str} (hn : l.Nodup) (e : l[i]? = some s) : (Sum.inr s : Key) ∉ (l.take i).map Sum.inr := by
  intro z
  obtain ⟨t, m, q⟩ := List.mem_map.mp z
  have q : t = s := Sum.inr.inj q
  subst q
  obtain ⟨j, hj, e2⟩ := List.mem_iff_getElem.mp m
  rw [List.length_take] at hj
  rw [List.getElem_take] at e2
  obtain ⟨hi, e3⟩ := List.getElem?_eq_some_iff.mp e
  have hlt : j < i := Nat.lt_of_lt_of_le hj (Nat.min_le_left _ _)
  exact List.pairwise_iff_getElem.mp hn j i (Nat.lt_trans hlt hi) hi hlt (e2.trans e3.symm)
theorem take_one {α : Type} {l : List α} {i : Nat} {s : α} (e : l[i]? = some s) : l.take (i + 1) = l.take i ++ [s] := by
  rw [List.take_add_one, e]
  rfl
section
variable {P : Program} {w : World} {K : PySem.W.Frag} {mg : Str → Option Value} {base : Heap} {C CS : Addr}
theorem scFirst : FnScope ["shop", "holders", "rows", "lock", "belt"] ["shop"] (defScope sFirst) := ⟨rfl, rfl, rfl, by decide +kernel, rfl, by decide +kernel, by decide +kernel⟩
theorem ok_first {f fI : Addr} {fd fdI : FuncData} (F : Fun K "first_things" "first_things" sFirst f fd) (B : Blt mg) (X : TTxt K C) (XS : STxt K CS) (M : Mk K C fI) (G : FnOk P w K mg base CX0 1 fI fdI ["self", "cells", "holders", "rows", "sizes"] (spTI C)) (mT : mg "Things" = some (.ref C)) (bI : Binds K fdI ["self", "cells", "holders", "rows", "sizes"] []) :
    FnOk P w K mg base CX0 3 f fd ["shop"] (spFirst K CS C) := by
  refine F.ok scFirst (fun vs H Q E h => ?_) (fun cdv A outer s H vs Q E hr h => ?_)
  · obtain ⟨sh, S, rfl, _⟩ := h
    rfl
  · obtain ⟨sh, S, rfl, hS, n1, n2, l1, l2, k⟩ := h
    have hr2 : Room 2 _ := hr.mono (by omega)
    refine ⟨_, pss_cons (ps_setDc (i := 1) (own := [("lock", 3)]) rfl scFirst.nd rfl rfl (sw_dc rfl rfl (by decide) (by decide)) (pi_tup (pe_fld (pv 0) rfl)) (blkOk_by (N := ["shop", "holders", "rows", "lock", "belt"]) (sc := defScope sFirst) (by decide +kernel))
        (fun _ _ _ _ _ => pg_name (i := 3) scFirst.nd rfl (Or.inl rfl)) (fun _ _ _ _ _ => pts_nil) (fun _ _ _ _ _ => pv 3) (fun _ _ _ _ _ => pe_non))
      (pss_cons (ps_lock (ps_setDc (i := 2) (own := [("belt", 4)]) rfl scFirst.nd rfl rfl (sw_dc rfl rfl (by decide) (by decide)) (pi_keys (pe_fld (pv 0) rfl)) (blkOk_by (N := ["shop", "holders", "rows", "lock", "belt"]) (sc := defScope sFirst) (by decide +kernel))
        (fun _ _ _ _ _ => pg_name (i := 4) scFirst.nd rfl (Or.inl rfl)) (fun _ _ _ _ _ => pts_nil) (fun _ _ _ _ _ => pv 4) (fun _ _ _ _ _ => pe_tup pa_nil)))
      (pss_one (ps_ret (pe_make M G hr2 rfl mT bI .nil pass0 (pa_cons (pe_callTy call_dictD (by rfl) B.dict (by decide +kernel) (pa_cons (pe_fld (pv 0) rfl) pa_nil)) (pa_cons (pv 1) (pa_cons (pv 2) (pa_cons (pe_fld (pv 0) rfl) pa_nil)))))))), ?_⟩
    refine ⟨_, rfl, sh, CS, S.dx, _, _, rfl, hS.ob, XS.cl, XS.locks, sF_get2, S.lt, rfl, ⟨_, hS.l⟩, fun hd h1 => ?_⟩
    refine dc_tup (K := K) (a := S.lt) (xs := S.locks.map V.str) (fun i H' => Same H H' ∧ H' hd = some (.dK ((S.locks.take i).map fun s => (Sum.inr s, V.non)))) ⟨same_new h1, upd_same⟩ (fun i H' _ p => seqT_same p.1 hS.l) (fun i x H' e p => ?_) (fun H1 p => ?_)
    · rw [List.getElem?_map] at e
      cases q : S.locks[i]? with
      | none =>
        rw [q] at e
        cases e
      | some nm =>
        rw [q] at e
        obtain rfl := (Option.some.inj e).symm
        refine ⟨rfl, ?_⟩
        unfold tYes
        dsimp only
        refine iteT ?_
        refine ⟨_, rfl, _, Sum.inr nm, rfl, p.2, ?_, fun b o z => ?_, ?_⟩
        · rw [List.length_map, List.length_take]
          exact Nat.lt_of_lt_of_le (Nat.lt_succ_of_le (Nat.le_trans (Nat.min_le_right _ _) l1)) (small_sz (by decide))
        · rw [upd_ne (ne_of_none z h1)]
          exact p.1 b o z
        · rw [upd_same, putK_new _ (valV_none (by rw [List.map_map]; exact fresh_key n1 q)), take_one q, List.map_append]
          rfl
    · have e1 : H1 hd = some (.dK (S.locks.map fun s => (Sum.inr s, V.non))) := by
        have z := p.2
        rw [List.length_map, List.take_length] at z
        exact z
      have q1 := p.1
      have hS1 := hS.same q1
      refine ⟨S.bd, _, hS1.b, trivial, fun od => ?_⟩
      have ob2 : upd H1 S.bd (.frz od (.dK S.belts)) sh = _ := (upd_ne (ne_of hS1.ob hS1.b (by intro z; cases z))).trans hS1.ob
      refine ⟨_, rfl, sh, CS, S.dx, _, _, rfl, ob2, XS.cl, XS.belts, sF_get3, S.bd, od, rfl, .inl ⟨S.belts, upd_same, fun rd h2 => ?_⟩⟩
      have f2 := upd_free h2
      refine dc_keys (fun i H' => (∀ b o, H1 b = some o → b ≠ S.bd → H' b = some o) ∧ H' S.bd = some (.frz od (.dK S.belts)) ∧ ∃ rows : List (Key × V), H' rd = some (.dK rows) ∧ rows.map (·.1) = (S.beltN.take i).map Sum.inr ∧ ∀ p ∈ rows, ∃ a, p.2 = .ref a ∧ H' a = some (.tup []))
        ⟨fun b o z ne => by rw [upd_ne (ne_of_none z f2.2), upd_ne ne]; exact z, by rw [upd_ne (Ne.symm f2.1)]; exact upd_same, [], upd_same, rfl, fun p hp => (nomatch hp)⟩ (fun i H' _ p => p.2.1) (fun i ky v H' e p => ?_) (fun H3 p => ?_)
      · obtain ⟨old, pb, rows, pr, pk, pv'⟩ := p
        have kx : (S.belts.map (·.1))[i]? = some ky := by
          rw [List.getElem?_map, e]
          rfl
        rw [hS.bn, List.getElem?_map] at kx
        cases q : S.beltN[i]? with
        | none =>
          rw [q] at kx
          cases kx
        | some nm =>
          rw [q] at kx
          obtain rfl := (Option.some.inj kx).symm
          refine ⟨rfl, ?_⟩
          unfold tYes
          dsimp only
          refine iteT ?_
          refine ⟨_, rfl, small_sz (n := 0) (by decide), fun t ht => ?_⟩
          have tr : rd ≠ t := ne_of_none pr ht
          have lr : rows.length = min i S.beltN.length := by
            have z := congrArg List.length pk
            rw [List.length_map, List.length_map, List.length_take] at z
            exact z
          have lb : S.belts.length = S.beltN.length := by
            have z := congrArg List.length hS.bn
            rw [List.length_map, List.length_map] at z
            exact z
          have en : putK rows (Sum.inr nm) (V.ref t) = rows ++ [(Sum.inr nm, V.ref t)] := putK_new _ (valV_none (by rw [pk]; exact fresh_key n2 q))
          refine ⟨rows, Sum.inr nm, rfl, by rw [upd_ne tr]; exact pr, ?_, fun b o z ne => ?_, ?_, _, upd_same, ?_, fun z hz => ?_⟩
          · rw [lr]
            exact Nat.lt_of_lt_of_le (Nat.lt_succ_of_le (Nat.le_trans (Nat.min_le_right _ _) (lb ▸ l2))) (small_sz (by decide))
          · rw [upd_ne (ne_of_none z f2.2), upd_ne (ne_of_none (old b o z ne) ht)]
            exact old b o z ne
          · rw [upd_ne (Ne.symm f2.1), upd_ne (ne_of_none pb ht)]
            exact pb
          · rw [en, List.map_append, pk, take_one q, List.map_append]
            rfl
          · rw [en] at hz
            rcases List.mem_append.mp hz with m | m
            · obtain ⟨a, e3, e4⟩ := pv' z m
              refine ⟨a, e3, ?_⟩
              rw [upd_ne (ne_of e4 pr (by intro y; cases y)), upd_ne (ne_of_none e4 ht)]
              exact e4
            · obtain rfl := List.mem_singleton.mp m
              refine ⟨t, rfl, ?_⟩
              rw [upd_ne (Ne.symm tr)]
              exact upd_same
      · obtain ⟨old, pb, rows, pr, pk, pv'⟩ := p
        refine ⟨pb, ?_⟩
        have lb : S.belts.length = S.beltN.length := by
          have z := congrArg List.length hS.bn
          rw [List.length_map, List.length_map] at z
          exact z
        rw [lb, List.take_length] at pk
        have s14 : Same H1 (upd H3 S.bd (.dK S.belts)) := fun b o z => by
          by_cases c : b = S.bd
          · subst c
            rw [hS1.b] at z
            rw [upd_same]
            exact z
          · rw [upd_ne c]
            exact old b o z c
        have r4 : upd H3 S.bd (.dK S.belts) rd = some (.dK rows) := by
          rw [upd_ne f2.1]
          exact pr
        have v4 : ∀ p ∈ rows, ∃ a, p.2 = V.ref a ∧ upd H3 S.bd (.dK S.belts) a = some (.tup []) := fun p hp => by
          obtain ⟨a, e3, e4⟩ := pv' p hp
          refine ⟨a, e3, ?_⟩
          rw [upd_ne (ne_of e4 pb (by intro y; cases y))]
          exact e4
        generalize w4 : upd H3 S.bd (.dK S.belts) = H4 at s14 r4 v4 ⊢
        have s4 := q1.trans s14
        have hS4 := hS.same s4
        refine ⟨_, rfl, sh, CS, S.dx, _, _, rfl, hS4.ob, XS.cl, XS.cells, sF_get1, S.cd, S.cells, rfl, .inl hS4.c, fun cd n3 => ?_⟩
        have s5 := same_new (o := HO.dK S.cells) n3
        refine ⟨_, rfl, _, rfl, _, rfl, sh, CS, S.dx, _, _, rfl, s5 _ _ hS4.ob, XS.cl, XS.belts, sF_get3, fun t2 dx n4 n5 ne => ?_⟩
        refine ⟨t2, dx, _, _, _, _, rfl, upd_same, rfl, ?_⟩
        rw [upd_upd]
        have s6 : ∀ o, Same (upd H4 cd (.dK S.cells)) (upd (upd (upd H4 cd (.dK S.cells)) dx (.own t2)) t2 o) := fun o => (same_new n5).trans (same_new (by rw [upd_ne (Ne.symm ne)]; exact n4))
        have g4 := upd_free n4
        refine k t2 dx cd hd rd rows _ (s4.free g4.2) (s4.free n3) h1 (q1.free f2.2) ((s4.trans s5).trans (s6 _)) ⟨upd_same, s6 _ _ _ upd_same, (s5.trans (s6 _)) _ _ (s14 _ _ e1), (s5.trans (s6 _)) _ _ r4, (s5.trans (s6 _)) _ _ hS4.b⟩ pk fun p hp => ?_
        obtain ⟨a, e3, e4⟩ := v4 p hp
        exact ⟨a, e3, SqT.of ((s5.trans (s6 _)) _ _ e4)⟩
end
end TW
namespace TW
open PySem PySem.Spec PyProof.Rows L2
theorem rF_n0_1 : ¬ (("shop" : Str) = "things") := by decide +kernel
theorem rF_n0_2 : ¬ (("shop" : Str) = "places") := by decide +kernel
theorem rF_n0_3 : ¬ (("shop" : Str) = "done") := by decide +kernel
theorem rF_n1_0 : ¬ (("things" : Str) = "shop") := by decide +kernel
theorem rF_n1_2 : ¬ (("things" : Str) = "places") := by decide +kernel
theorem rF_n1_3 : ¬ (("things" : Str) = "done") := by decide +kernel
theorem rF_n2_0 : ¬ (("places" : Str) = "shop") := by decide +kernel
theorem rF_n2_1 : ¬ (("places" : Str) = "things") := by decide +kernel
theorem rF_n2_3 : ¬ (("places" : Str) = "done") := by decide +kernel
theorem rF_n3_0 : ¬ (("done" : Str) = "shop") := by decide +kernel
theorem rF_n3_1 : ¬ (("done" : Str) = "things") := by decide +kernel
theorem rF_n3_2 : ¬ (("done" : Str) = "places") := by decide +kernel
/-- the attributes of a rF, in the order in which __init__ stores them -/
def rF (v0 v1 v2 v3 : V) : List (Str × V) := [("shop", v0), ("things", v1), ("places", v2), ("done", v3)]
theorem rF_get0 {v0 v1 v2 v3 : V} : (rF v0 v1 v2 v3).lookup ("shop" : Str) = some v0 := by
  unfold rF
  rw [lookup_put, if_pos rfl]
theorem rF_put0 {v0 v1 v2 v3 z : V} : putF "shop" z (rF v0 v1 v2 v3) = rF z v1 v2 v3 := by
  unfold rF
  simp only [putF, if_true]
theorem rF_get1 {v0 v1 v2 v3 : V} : (rF v0 v1 v2 v3).lookup ("things" : Str) = some v1 := by
  unfold rF
  rw [lookup_put, if_neg rF_n1_0, lookup_put, if_pos rfl]
theorem rF_put1 {v0 v1 v2 v3 z : V} : putF "things" z (rF v0 v1 v2 v3) = rF v0 z v2 v3 := by
  unfold rF
  simp only [putF, if_neg rF_n0_1, if_true]
theorem rF_get2 {v0 v1 v2 v3 : V} : (rF v0 v1 v2 v3).lookup ("places" : Str) = some v2 := by
  unfold rF
  rw [lookup_put, if_neg rF_n2_0, lookup_put, if_neg rF_n2_1, lookup_put, if_pos rfl]
theorem rF_put2 {v0 v1 v2 v3 z : V} : putF "places" z (rF v0 v1 v2 v3) = rF v0 v1 z v3 := by
  unfold rF
  simp only [putF, if_neg rF_n0_2, if_neg rF_n1_2, if_true]
theorem rF_get3 {v0 v1 v2 v3 : V} : (rF v0 v1 v2 v3).lookup ("done" : Str) = some v3 := by
  unfold rF
  rw [lookup_put, if_neg rF_n3_0, lookup_put, if_neg rF_n3_1, lookup_put, if_neg rF_n3_2, lookup_put, if_pos rfl]
theorem rF_put3 {v0 v1 v2 v3 z : V} : putF "done" z (rF v0 v1 v2 v3) = rF v0 v1 v2 z := by
  unfold rF
  simp only [putF, if_neg rF_n0_3, if_neg rF_n1_3, if_neg rF_n2_3, if_true]
theorem rF_make0 {v0 : V} : putF "shop" v0 ([] : List (Str × V)) = ([("shop", v0)] : List (Str × V)) := rfl
theorem rF_make1 {v0 v1 : V} : putF "things" v1 ([("shop", v0)] : List (Str × V)) = ([("shop", v0), ("things", v1)] : List (Str × V)) := by
  simp only [putF, if_neg rF_n0_1, if_true]
theorem rF_make2 {v0 v1 v2 : V} : putF "places" v2 ([("shop", v0), ("things", v1)] : List (Str × V)) = ([("shop", v0), ("things", v1), ("places", v2)] : List (Str × V)) := by
  simp only [putF, if_neg rF_n0_2, if_neg rF_n1_2, if_true]
theorem rF_make3 {v0 v1 v2 v3 : V} : putF "done" v3 ([("shop", v0), ("things", v1), ("places", v2)] : List (Str × V)) = ([("shop", v0), ("things", v1), ("places", v2), ("done", v3)] : List (Str × V)) := by
  simp only [putF, if_neg rF_n0_3, if_neg rF_n1_3, if_neg rF_n2_3, if_true]
theorem rF_no {v0 v1 v2 v3 : V} {m : Str} (h0 : ¬ m = ("shop" : Str)) (h1 : ¬ m = ("things" : Str)) (h2 : ¬ m = ("places" : Str)) (h3 : ¬ m = ("done" : Str)) : (rF v0 v1 v2 v3).lookup m = none := by
  unfold rF
  rw [lookup_put, if_neg h0, lookup_put, if_neg h1, lookup_put, if_neg h2, lookup_put, if_neg h3]
  rfl

structure RTxt (K : PySem.W.Frag) (C : Addr) : Prop where
  cl : Cls K C
  shop : NoAttr K C "shop"
  things : NoAttr K C "things"
  places : NoAttr K C "places"
  done : NoAttr K C "done"
/-- a place as it stands -/
structure PS where
  p : Addr
  dp : Addr
  an : Addr
  ans : List V
  pend : V
  fin : V
  tw : Addr
  words : List V
structure PlaceAt (K : PySem.W.Frag) (CP : Addr) (H : Hp) (x : PS) : Prop where
  ob : H x.p = some (.ins CP x.dp (pF (.ref x.an) x.pend x.fin (.ref x.tw)))
  a : SqT K H x.an x.ans
  w : SqT K H x.tw x.words
/-- a run -/
structure RS where
  dx : Addr
  sh : Addr
  th : Addr
  pl : Addr
  dn : Addr
  T : TS
  places : List PS
  done : List V
structure RunAt (K : PySem.W.Frag) (CR CT CP : Addr) (H : Hp) (r : Addr) (R : RS) : Prop where
  ob : H r = some (.ins CR R.dx (rF (.ref R.sh) (.ref R.th) (.ref R.pl) (.ref R.dn)))
  t : ThingsAt K CT H R.th R.T
  p : H R.pl = some (.lst (R.places.map fun x => V.ref x.p))
  e : ∀ x ∈ R.places, PlaceAt K CP H x
  d : H R.dn = some (.lst R.done)
/-- whether something is an integer -/
def Whl (K : PySem.W.Frag) (H : Hp) (x : V) (b : Bool) : Prop := ∃ T i j, TyX K H x (.type T) ∧ kitB T "int" = some i ∧ (i = true → kitB T "bool" = some j) ∧ b = (i && !j)
def spWhole (K : PySem.W.Frag) : Sp := fun vs H Q _ => ∃ x b, vs = [x] ∧ Whl K H x b ∧ Q (.bl b) H
/-- the number of a work, or none -/
def spPlace (K : PySem.W.Frag) (CR CT CP CW : Addr) : Sp := fun vs H Q E => ∃ (r : Addr) (R : RS) (x : V) (b : Bool), vs = [.ref r, x] ∧ RunAt K CR CT CP H r R ∧ Whl K H x b ∧ (b = false → EX E CW "number" x H) ∧
  (b = true → ∃ k : Int, x = .int k ∧ (∀ (n : Nat) y, k = (n : Int) → R.places[n]? = some y → Q (.ref y.p) H) ∧ (¬ (0 ≤ k ∧ k < (R.places.length : Int)) → EX E CW "number" x H))
section
variable {P : Program} {w : World} {K : PySem.W.Frag} {mg : Str → Option Value} {base : Heap} {CR CT CP CW : Addr} {H H' : Hp}
theorem ThingsAt.same {C th : Addr} {T : TS} (e : Same H H') (A : ThingsAt K C H th T) : ThingsAt K C H' th T := ⟨e _ _ A.ob, e _ _ A.c, e _ _ A.h, e _ _ A.r, e _ _ A.s⟩
theorem PlaceAt.same {x : PS} (e : Same H H') (A : PlaceAt K CP H x) : PlaceAt K CP H' x := ⟨e _ _ A.ob, seqT_same e A.a, seqT_same e A.w⟩
theorem RunAt.same {r : Addr} {R : RS} (e : Same H H') (A : RunAt K CR CT CP H r R) : RunAt K CR CT CP H' r R := ⟨e _ _ A.ob, A.t.same e, e _ _ A.p, fun x hx => (A.e x hx).same e, e _ _ A.d⟩
abbrev sWhole : Stmt := top 15
theorem scWhole : FnScope ["given"] ["given"] (defScope sWhole) := ⟨rfl, rfl, rfl, by decide +kernel, rfl, by decide +kernel, by decide +kernel⟩
theorem ok_whole {f : Addr} {fd : FuncData} (F : Fun K "is_whole" "is_whole" sWhole f fd) (B : Blt mg) : FnOk P w K mg base CX0 1 f fd ["given"] (spWhole K) := by
  refine F.ok scWhole (fun vs H Q E h => ?_) (fun cdv A outer s H vs Q E hr h => ?_)
  · obtain ⟨x, b, rfl, _⟩ := h
    rfl
  · obtain ⟨x, b, rfl, ⟨T, i, j, ty, e1, e2, rfl⟩, hq⟩ := h
    refine ⟨_, pss_one (ps_ret (pe_and (pe_callB call_isi (by rfl) B.isi (by decide +kernel) (pa_cons (pv 0) (pa_cons (pe_bltn (v := .ty "int") (by rfl) B.int (by decide +kernel) rfl) pa_nil)))
      (pe_one (pe_not (pe_callB call_isi (by rfl) B.isi (by decide +kernel) (pa_cons (pv 0) (pa_cons (pe_bltn (v := .ty "bool") (by rfl) B.bool (by decide +kernel) rfl) pa_nil))))))), ?_⟩
    refine ⟨_, rfl, _, _, _, _, _, rfl, .ty _, ty, kit_ty e1, _, rfl, ?_⟩
    cases i with
    | false => exact iteF hq
    | true =>
      refine iteT ?_
      exact ⟨_, rfl, _, _, _, _, _, rfl, .ty _, ty, kit_ty (e2 rfl), _, rfl, hq⟩
abbrev sPlace : Stmt := top 50
theorem scPlace : FnScope ["run", "k"] ["run", "k"] (defScope sPlace) := ⟨rfl, rfl, rfl, by decide +kernel, rfl, by decide +kernel, by decide +kernel⟩
theorem ok_place {f fW : Addr} {fd fdW : FuncData} (F : Fun K "place_of" "place_of" sPlace f fd) (B : Blt mg) (X : RTxt K CR) (G : FnOk P w K mg base CX0 1 fW fdW ["given"] (spWhole K)) (mG : mg "is_whole" = some (.ref fW)) (kG : PySem.W.keepIn K (.ref fW) = true) (bG : Binds K fdW ["given"] [])
    (Z : Err1 P w K mg base "NoWork" "number" CW) : FnOk P w K mg base (L2.CX P w) 3 f fd ["run", "k"] (spPlace K CR CT CP CW) := by
  obtain ⟨fI, fdI, z, g⟩ := Z.ex
  refine F.okX scPlace (fun vs H Q E h => ?_) (fun cdv A outer s H vs Q E hr h => ?_)
  · obtain ⟨r, R, x, b, rfl, _⟩ := h
    rfl
  · obtain ⟨r, R, x, b, rfl, hR, hW, k1, k2⟩ := h
    have hr1 : Room 1 _ := hr.mono (by omega)
    have hr2 : Room 2 _ := hr.mono (by omega)
    refine ⟨_, pss_cons (ps_if (PW.pt (pw_or (pt_not (pt_val (pe_call G hr1 rfl mG kG bG .nil pass0 (pa_cons (pv 1) pa_nil)))) (pw_or1 (pt_not (pt_chain op_le op_lt pe_int (pv 1) (pe_callB call_len_seq (by rfl) B.len PySem.boot_len (pa_cons (pe_fld (pv 0) rfl) pa_nil)))))))
        (pss_one (ps_raise rfl (takes_of (E := E) rfl rfl rfl rfl) (pmk_err z g hr2 Z.m (pa_cons (pv 1) pa_nil)))) pss_nil)
      (pss_one (ps_ret (pe_ix ix_list (pe_fld (pv 0) rfl) (pv 1) (fun _ _ => rfl)))), ?_⟩
    refine ⟨_, rfl, x, b, rfl, hW, b, rfl, ?_⟩
    cases b with
    | false => exact iteT (iteT ⟨_, rfl, _, rfl, k1 rfl⟩)
    | true =>
      obtain ⟨k, rfl, q1, q2⟩ := k2 rfl
      refine iteF ?_
      refine ⟨_, rfl, _, _, rfl, rfl, _, rfl, ?_⟩
      by_cases c1 : 0 ≤ k
      · rw [decide_eq_true c1]
        refine iteT ?_
        refine ⟨_, rfl, r, CR, R.dx, _, _, rfl, hR.ob, X.cl, X.places, rF_get2, R.pl, _, rfl, .inl (SqL.of hR.p), _, _, rfl, rfl, _, rfl, ?_⟩
        rw [List.length_map]
        by_cases c2 : k < (R.places.length : Int)
        · rw [decide_eq_true c2]
          refine iteF ?_
          obtain ⟨n, rfl⟩ := Int.eq_ofNat_of_zero_le c1
          have hn : n < R.places.length := by omega
          exact ⟨_, rfl, r, CR, R.dx, _, _, rfl, hR.ob, X.cl, X.places, rF_get2, _, rfl, R.pl, _, _, _, rfl, rfl, SqL.of hR.p, atI_nat (j := n) (by rw [List.getElem?_map, List.getElem?_eq_getElem hn]; rfl), q1 n _ rfl (List.getElem?_eq_getElem hn)⟩
        · rw [decide_eq_false c2]
          exact iteT ⟨_, rfl, _, rfl, q2 (fun z => c2 z.2)⟩
      · rw [decide_eq_false c1]
        exact ⟨_, rfl, iteT ⟨_, rfl, _, rfl, q2 (fun z => c1 z.1)⟩⟩
end
end TW
namespace TW
open PySem PySem.Spec PyProof.Rows L2
abbrev sCanGo : Stmt := top 51
/-- whether a work that stands so can go -/
def CanGo (K : PySem.W.Frag) (Rel : Hp → V → V → Bool → Prop) (H : Hp) (T : TS) (pend : V) (b : Bool) : Prop := (pend = .non ∧ b = false) ∨ ∃ wt word rest, pend = .ref wt ∧ SqT K H wt (.str word :: rest) ∧ Needs K Rel H T word rest b
def spCanGo (K : PySem.W.Frag) (CR CT CP : Addr) (Rel : Hp → V → V → Bool → Prop) : Sp := fun vs H Q _ => ∃ (r : Addr) (R : RS) (y : PS) (b : Bool), vs = [.ref r, .ref y.p] ∧ RunAt K CR CT CP H r R ∧ PlaceAt K CP H y ∧ CanGo K Rel H R.T y.pend b ∧ ∀ H', Same H H' → Q (.bl b) H'
/-- what a table holds for a name -/
def spCellOf (K : PySem.W.Frag) (CR CT CP CN : Addr) (tab : TS → List (Key × V)) : Sp := fun vs H Q E => ∃ (r : Addr) (R : RS) (y : V) (l : List Str) (b : Bool), vs = [.ref r, y] ∧ RunAt K CR CT CP H r R ∧ (tab R.T).map (·.1) = l.map Sum.inr ∧ Among K H l y b ∧ (b = false → EX E CN "name" y H) ∧
  (b = true → ∃ nm v, y = .str nm ∧ valV (tab R.T) (Sum.inr nm) = some v ∧ Q v H)
def spOfPlace (K : PySem.W.Frag) (CR CT CP CW : Addr) (f : PS → V) : Sp := fun vs H Q E => ∃ (r : Addr) (R : RS) (x : V) (b : Bool), vs = [.ref r, x] ∧ RunAt K CR CT CP H r R ∧ Whl K H x b ∧ (b = false → EX E CW "number" x H) ∧
  (b = true → ∃ k : Int, x = .int k ∧ (∀ (n : Nat) y, k = (n : Int) → R.places[n]? = some y → Q (f y) H) ∧ (¬ (0 ≤ k ∧ k < (R.places.length : Int)) → EX E CW "number" x H))
section
variable {P : Program} {w : World} {K : PySem.W.Frag} {mg : Str → Option Value} {base : Heap} {CR CT CP CW : Addr} {n : Nat}
theorem scCanGo : FnScope ["run", "place"] ["run", "place"] (defScope sCanGo) := ⟨rfl, rfl, rfl, by decide +kernel, rfl, by decide +kernel, by decide +kernel⟩
theorem ok_canGo {f fN : Addr} {fd fdN : FuncData} {Rel : Hp → V → V → Bool → Prop} (F : Fun K "can_go" "can_go" sCanGo f fd) (X : RTxt K CR) (XP : PTxt K CP) (G : FnOk P w K mg base CX0 (n + 2) fN fdN ["things", "wish"] (spNeed K CT Rel)) (mN : mg "need_not_wait" = some (.ref fN)) (kN : PySem.W.keepIn K (.ref fN) = true) (bN : Binds K fdN ["things", "wish"] []) :
    FnOk P w K mg base CX0 (n + 3) f fd ["run", "place"] (spCanGo K CR CT CP Rel) := by
  refine F.ok scCanGo (fun vs H Q E h => ?_) (fun cdv A outer s H vs Q E hr h => ?_)
  · obtain ⟨r, R, y, b, rfl, _⟩ := h
    rfl
  · obtain ⟨r, R, y, b, rfl, hR, hP, hC, hq⟩ := h
    refine ⟨_, pss_one (ps_ret (pe_and (pe_cmpR op_notN (pe_fld (pv 1) rfl) pe_non (nomark _)) (pe_one (pe_call G hr rfl mN kN bN .nil pass0 (pa_cons (pe_fld (pv 0) rfl) (pa_cons (pe_fld (pv 1) rfl) pa_nil)))))), ?_⟩
    rcases hC with ⟨e, rfl⟩ | ⟨wt, word, rest, e, hW, hN⟩
    · refine ⟨_, rfl, y.p, CP, y.dp, _, _, rfl, hP.ob, XP.cl, XP.pending, pF_get1, rfl, _, rfl, ?_⟩
      rw [e]
      exact iteF (hq _ (Same.refl _))
    · refine ⟨_, rfl, y.p, CP, y.dp, _, _, rfl, hP.ob, XP.cl, XP.pending, pF_get1, rfl, _, rfl, ?_⟩
      rw [e]
      refine iteT ?_
      refine ⟨_, rfl, r, CR, R.dx, _, _, rfl, hR.ob, X.cl, X.things, rF_get1, _, rfl, y.p, CP, y.dp, _, _, rfl, hP.ob, XP.cl, XP.pending, pF_get1, ?_⟩
      exact ⟨R.th, wt, R.T, word, rest, b, by rw [e]; rfl, hR.t, hW, hN, hq⟩
abbrev s_wish : Stmt := inClass (top 53) 1
theorem sc_wish : FnScope ["self", "k"] ["self", "k"] (defScope s_wish) := ⟨rfl, rfl, rfl, by decide +kernel, rfl, by decide +kernel, by decide +kernel⟩
theorem ok_wish {f fP : Addr} {fd fdP : FuncData} (F : Fun K "wish" "Run.wish" s_wish f fd) (XP : PTxt K CP) (G : FnOk P w K mg base (L2.CX P w) 3 fP fdP ["run", "k"] (spPlace K CR CT CP CW)) (mP : mg "place_of" = some (.ref fP)) (kP : PySem.W.keepIn K (.ref fP) = true) (bP : Binds K fdP ["run", "k"] []) :
    FnOk P w K mg base (L2.CX P w) 4 f fd ["self", "k"] (spOfPlace K CR CT CP CW PS.pend) := by
  refine F.okX sc_wish (fun vs H Q E h => ?_) (fun cdv A outer s H vs Q E hr h => ?_)
  · obtain ⟨r, R, x, b, rfl, _⟩ := h
    rfl
  · obtain ⟨r, R, x, b, rfl, hR, hW, k1, k2⟩ := h
    refine ⟨_, pss_one (ps_ret (pe_fld (pe_callS G hr rfl mP kP bP (fun σ => passAt (takes_of (E := E) rfl rfl rfl rfl) σ) (pa_cons (pv 0) (pa_cons (pv 1) pa_nil))) rfl)), ?_⟩
    refine ⟨_, rfl, _, rfl, r, R, x, b, rfl, hR, hW, k1, fun hb => ?_⟩
    obtain ⟨k, e, q1, q2⟩ := k2 hb
    refine ⟨k, e, fun n y en ey => ?_, q2⟩
    have hP := hR.e y (List.mem_of_getElem? ey)
    exact ⟨y.p, CP, y.dp, _, _, rfl, hP.ob, XP.cl, XP.pending, pF_get1, q1 n y en ey⟩
abbrev s_said : Stmt := inClass (top 53) 10
theorem sc_said : FnScope ["self", "k"] ["self", "k"] (defScope s_said) := ⟨rfl, rfl, rfl, by decide +kernel, rfl, by decide +kernel, by decide +kernel⟩
theorem ok_said {f fP : Addr} {fd fdP : FuncData} (F : Fun K "said" "Run.said" s_said f fd) (XP : PTxt K CP) (G : FnOk P w K mg base (L2.CX P w) 3 fP fdP ["run", "k"] (spPlace K CR CT CP CW)) (mP : mg "place_of" = some (.ref fP)) (kP : PySem.W.keepIn K (.ref fP) = true) (bP : Binds K fdP ["run", "k"] []) :
    FnOk P w K mg base (L2.CX P w) 4 f fd ["self", "k"] (spOfPlace K CR CT CP CW (fun y => .ref y.tw)) := by
  refine F.okX sc_said (fun vs H Q E h => ?_) (fun cdv A outer s H vs Q E hr h => ?_)
  · obtain ⟨r, R, x, b, rfl, _⟩ := h
    rfl
  · obtain ⟨r, R, x, b, rfl, hR, hW, k1, k2⟩ := h
    refine ⟨_, pss_one (ps_ret (pe_fld (pe_callS G hr rfl mP kP bP (fun σ => passAt (takes_of (E := E) rfl rfl rfl rfl) σ) (pa_cons (pv 0) (pa_cons (pv 1) pa_nil))) rfl)), ?_⟩
    refine ⟨_, rfl, _, rfl, r, R, x, b, rfl, hR, hW, k1, fun hb => ?_⟩
    obtain ⟨k, e, q1, q2⟩ := k2 hb
    refine ⟨k, e, fun n y en ey => ?_, q2⟩
    have hP := hR.e y (List.mem_of_getElem? ey)
    exact ⟨y.p, CP, y.dp, _, _, rfl, hP.ob, XP.cl, XP.words, pF_get3, q1 n y en ey⟩
abbrev s_cell : Stmt := inClass (top 53) 7
theorem sc_cell : FnScope ["self", "name"] ["self", "name"] (defScope s_cell) := ⟨rfl, rfl, rfl, by decide +kernel, rfl, by decide +kernel, by decide +kernel⟩
theorem ok_cell {f fT CN : Addr} {fd fdT : FuncData} (F : Fun K "cell" "Run.cell" s_cell f fd) (X : RTxt K CR) (XT : TTxt K CT) (G : FnOk P w K mg base (L2.CX P w) 3 fT fdT ["names", "name"] (spCkT K CN)) (mT : mg "check_thing" = some (.ref fT)) (kT : PySem.W.keepIn K (.ref fT) = true) (bT : Binds K fdT ["names", "name"] []) :
    FnOk P w K mg base (L2.CX P w) 4 f fd ["self", "name"] (spCellOf K CR CT CP CN (fun T => T.cells)) := by
  refine F.okX sc_cell (fun vs H Q E h => ?_) (fun cdv A outer s H vs Q E hr h => ?_)
  · obtain ⟨r, R, y, l, b, rfl, _⟩ := h
    rfl
  · obtain ⟨r, R, y, l, b, rfl, hR, hl, hA, k1, k2⟩ := h
    have hu := hu_of hr
    refine ⟨_, pss_cons (ps_expr (pe_callS G hr rfl mT kT bT (fun σ => passAt (takes_of (E := E) rfl rfl rfl rfl) σ) (pa_cons (pe_fld (pe_fld (pv 0) rfl) rfl) (pa_cons (pv 1) pa_nil))))
      (pss_one (ps_ret (pe_dget hu (pe_fld (pe_fld (pv 0) rfl) rfl) (pv 1) (fun _ _ => rfl)))), ?_⟩
    refine ⟨_, rfl, r, CR, R.dx, _, _, rfl, hR.ob, X.cl, X.things, rF_get1, R.th, CT, R.T.dx, _, _, rfl, hR.t.ob, XT.cl, XT.cells, tF_get0, _, rfl, .ref R.T.cd, y, l, b, rfl, .inl ⟨R.T.cd, R.T.cells, rfl, .inl hR.t.c, hl⟩, hA, fun hb => ?_, k1⟩
    obtain ⟨nm, v, rfl, e, hq⟩ := k2 hb
    exact ⟨_, rfl, r, CR, R.dx, _, _, rfl, hR.ob, X.cl, X.things, rF_get1, R.th, CT, R.T.dx, _, _, rfl, hR.t.ob, XT.cl, XT.cells, tF_get0, _, rfl, R.T.cd, v, rfl, e ▸ DGet.k (k := Sum.inr nm) hR.t.c, hq⟩
abbrev s_belt : Stmt := inClass (top 53) 9
theorem sc_belt : FnScope ["self", "name"] ["self", "name"] (defScope s_belt) := ⟨rfl, rfl, rfl, by decide +kernel, rfl, by decide +kernel, by decide +kernel⟩
theorem ok_belt {f fT CN : Addr} {fd fdT : FuncData} (F : Fun K "belt" "Run.belt" s_belt f fd) (X : RTxt K CR) (XT : TTxt K CT) (G : FnOk P w K mg base (L2.CX P w) 3 fT fdT ["names", "name"] (spCkT K CN)) (mT : mg "check_thing" = some (.ref fT)) (kT : PySem.W.keepIn K (.ref fT) = true) (bT : Binds K fdT ["names", "name"] []) :
    FnOk P w K mg base (L2.CX P w) 4 f fd ["self", "name"] (spCellOf K CR CT CP CN (fun T => T.rows)) := by
  refine F.okX sc_belt (fun vs H Q E h => ?_) (fun cdv A outer s H vs Q E hr h => ?_)
  · obtain ⟨r, R, y, l, b, rfl, _⟩ := h
    rfl
  · obtain ⟨r, R, y, l, b, rfl, hR, hl, hA, k1, k2⟩ := h
    have hu := hu_of hr
    refine ⟨_, pss_cons (ps_expr (pe_callS G hr rfl mT kT bT (fun σ => passAt (takes_of (E := E) rfl rfl rfl rfl) σ) (pa_cons (pe_fld (pe_fld (pv 0) rfl) rfl) (pa_cons (pv 1) pa_nil))))
      (pss_one (ps_ret (pe_dget hu (pe_fld (pe_fld (pv 0) rfl) rfl) (pv 1) (fun _ _ => rfl)))), ?_⟩
    refine ⟨_, rfl, r, CR, R.dx, _, _, rfl, hR.ob, X.cl, X.things, rF_get1, R.th, CT, R.T.dx, _, _, rfl, hR.t.ob, XT.cl, XT.rows, tF_get2, _, rfl, .ref R.T.rd, y, l, b, rfl, .inl ⟨R.T.rd, R.T.rows, rfl, .inl hR.t.r, hl⟩, hA, fun hb => ?_, k1⟩
    obtain ⟨nm, v, rfl, e, hq⟩ := k2 hb
    exact ⟨_, rfl, r, CR, R.dx, _, _, rfl, hR.ob, X.cl, X.things, rF_get1, R.th, CT, R.T.dx, _, _, rfl, hR.t.ob, XT.cl, XT.rows, tF_get2, _, rfl, R.T.rd, v, rfl, e ▸ DGet.k (k := Sum.inr nm) hR.t.r, hq⟩
end
end TW
namespace L2
open PySem PySem.Spec PyProof.Rows
theorem pg_tupC {X : Cx} {s : Shared} {H : Hp} {scope : Scope} {env : Env} {fp : List Addr} {es : List Expr} {k n : Nat} {t : TGs} {pos : Pos} (hc : (X.blk s H scope env fp).calm = true) (h : PGs (X.blk s H scope env fp) es t)
    (hn : (assignEach es (X.blk s H scope env fp).env).length = n := by rfl) (hst : (assignEach es (X.blk s H scope env fp).env).findIdx? (·.1) = none := by rfl) : PG (X.blk s H scope env fp) (.Tuple es k pos) (gTup X.K n t) :=
  pg_tup (X := X.blk s H scope env fp) hc h hn hst
end L2
namespace TW
open PySem PySem.Spec PyProof.Rows L2
abbrev s_can : Stmt := inClass (top 53) 2
/-- the numbers below i that are told True -/
def upTo (f : Nat → Bool) : Nat → List V
  | 0 => []
  | i + 1 => if f i = true then upTo f i ++ [.int (i : Nat)] else upTo f i
theorem upTo_len (f : Nat → Bool) (i : Nat) : (upTo f i).length ≤ i := by
  induction i with
  | zero => exact Nat.le_refl _
  | succ i ih =>
    unfold upTo
    split
    · rw [List.length_append]
      exact Nat.succ_le_succ ih
    · exact Nat.le_succ_of_le ih
/-- a relation of values that new objects don't change -/
def Keeps (Rel : Hp → V → V → Bool → Prop) : Prop := ∀ H H' x y b, Same H H' → Rel H x y b → Rel H' x y b
section
variable {K : PySem.W.Frag} {H H' : Hp} {Rel : Hp → V → V → Bool → Prop}
theorem Roomy.same {T : TS} {s : Str} {b : Bool} (e : Same H H') (h : Roomy K H T s b) : Roomy K H' T s b := by
  obtain ⟨sz, a, row, e1, e2, q, k⟩ := h
  exact ⟨sz, a, row, e1, e2, seqT_same e q, k⟩
theorem Needs.same (k : Keeps Rel) {T : TS} {word : Str} {rest : List V} {b : Bool} (e : Same H H') (h : Needs K Rel H T word rest b) : Needs K Rel H' T word rest b := by
  obtain ⟨k1, k2, k3, k4, k5⟩ := h
  refine ⟨fun c => ?_, k2, fun c => ?_, fun c => ?_, k5⟩
  · obtain ⟨s, x, l, v, e1, e2, e3⟩ := k1 c
    exact ⟨s, x, l, v, e1, e2, k _ _ _ _ _ e e3⟩
  · obtain ⟨s, l, e1, e2⟩ := k3 c
    exact ⟨s, l, e1, e2.same e⟩
  · obtain ⟨s, l, a, row, e1, e2, e3, e4⟩ := k4 c
    exact ⟨s, l, a, row, e1, e2, seqT_same e e3, e4⟩
theorem CanGo.same (k : Keeps Rel) {T : TS} {pend : V} {b : Bool} (e : Same H H') (h : CanGo K Rel H T pend b) : CanGo K Rel H' T pend b := by
  rcases h with h | ⟨wt, word, rest, e1, e2, e3⟩
  · exact .inl h
  · exact .inr ⟨wt, word, rest, e1, seqT_same e e2, e3.same k e⟩
end
def spCan (K : PySem.W.Frag) (CR CT CP : Addr) (Rel : Hp → V → V → Bool → Prop) : Sp := fun vs H Q _ => ∃ (r : Addr) (R : RS) (f : Nat → Bool), vs = [.ref r] ∧ RunAt K CR CT CP H r R ∧ R.places.length ≤ 1000 ∧ (∀ (i : Nat) y, R.places[i]? = some y → CanGo K Rel H R.T y.pend (f i)) ∧
  ∀ (D : Addr) (H' : Hp), H D = none → Same H H' → H' D = some (.lst (upTo f R.places.length)) → Q (.ref D) H'
section
variable {P : Program} {w : World} {K : PySem.W.Frag} {mg : Str → Option Value} {base : Heap} {CR CT CP CW : Addr} {n : Nat}
theorem sc_can : FnScope ["self", "k", "place"] ["self"] (defScope s_can) := ⟨rfl, rfl, rfl, by decide +kernel, rfl, by decide +kernel, by decide +kernel⟩
theorem ok_can {f fG : Addr} {fd fdG : FuncData} {Rel : Hp → V → V → Bool → Prop} (hk : Keeps Rel) (F : Fun K "can" "Run.can" s_can f fd) (B : Blt mg) (X : RTxt K CR) (G : FnOk P w K mg base CX0 (n + 3) fG fdG ["run", "place"] (spCanGo K CR CT CP Rel)) (mG : mg "can_go" = some (.ref fG)) (kG : PySem.W.keepIn K (.ref fG) = true) (bG : Binds K fdG ["run", "place"] []) :
    FnOk P w K mg base CX0 (n + 4) f fd ["self"] (spCan K CR CT CP Rel) := by
  refine F.ok sc_can (fun vs H Q E h => ?_) (fun cdv A outer s H vs Q E hr h => ?_)
  · obtain ⟨r, R, g, rfl, _⟩ := h
    rfl
  · obtain ⟨r, R, g, rfl, hR, few, hC, hq⟩ := h
    refine ⟨_, pss_one (ps_ret (pe_lc (own := [("k", 1), ("place", 2)]) rfl sc_can.nd (pi_enum (by rfl) B.enumerate (pa_cons (pe_fld (pv 0) rfl) pa_nil)) (blkOk_by (N := ["self", "k", "place"]) (sc := defScope s_can) (by decide +kernel))
      (fun _ _ _ _ _ => pg_tupC (n := 2) rfl (pgs_cons (pg_name (i := 1) sc_can.nd rfl (Or.inl rfl)) (pgs_cons (pg_name (i := 2) sc_can.nd rfl (Or.inl rfl)) pgs_nil)))
      (fun _ _ _ _ _ => pts_one (pt_val (pe_call G hr rfl mG kG bG .nil pass0 (pa_cons (pv 0) (pa_cons (pv 2) pa_nil)))))
      (fun _ _ _ _ _ => pv 1))), ?_⟩
    refine ⟨_, rfl, r, CR, R.dx, _, _, rfl, hR.ob, X.cl, X.places, rF_get2, R.pl, _, rfl, SqL.of hR.p, fun D hD => ?_⟩
    refine lc_it (walk_enum (K := K) (a := R.pl) (xs := R.places.map fun x => V.ref x.p)) (fun i H' => Same H H' ∧ H' D = some (.lst (upTo g i))) ⟨same_new hD, upd_same⟩ (fun i H' _ p => SqL.of (p.1 _ _ hR.p)) (fun i x H1 H' hi p y => ?_) (fun H1 p => ?_)
    · obtain ⟨T, x1, x2, rfl, hT, rfl, e1, e2⟩ := y
      obtain rfl := (Option.some.inj e1).symm
      rw [List.length_map] at hi
      have ey : R.places[i]? = some R.places[i] := List.getElem?_eq_getElem hi
      dsimp only at e2
      rw [List.getElem?_map, ey] at e2
      obtain rfl := (Option.some.inj e2).symm
      have sT := same_new (o := HO.tup [V.int (i : Nat), V.ref R.places[i].p]) hT
      have sm := p.1.trans sT
      refine ⟨T, [.int (i : Nat), .ref R.places[i].p], rfl, SqT.of upd_same, rfl, _, _, rfl, _, _, rfl, rfl, rfl, ?_⟩
      refine ⟨_, rfl, _, rfl, r, R, R.places[i], g i, rfl, hR.same sm, (hR.e _ (List.mem_of_getElem? ey)).same sm, (hC i _ ey).same hk sm, fun H2 s2 => ⟨_, rfl, ?_⟩⟩
      have s3 := sm.trans s2
      have d2 := s2 _ _ (sT _ _ p.2)
      cases e : g i with
      | true =>
        refine iteT ?_
        refine ⟨_, rfl, upTo g i, d2, ?_, fun b o z => ?_, ?_⟩
        · exact Nat.lt_of_lt_of_le (Nat.lt_succ_of_le (Nat.le_trans (upTo_len g i) (Nat.le_trans (Nat.le_of_lt hi) few))) (small_sz (by decide))
        · rw [upd_ne (ne_of_none z hD)]
          exact s3 b o z
        · rw [upd_same]
          conv => rhs; unfold upTo
          rw [e]
          rfl
      | false =>
        refine iteF ⟨s3, ?_⟩
        conv => rhs; unfold upTo
        rw [e]
        exact d2
    · have z := p.2
      rw [List.length_map] at z
      exact hq D H1 hD p.1 z
end
end TW
namespace TW
open PySem PySem.Spec PyProof.Rows L2
theorem ixN_at {n j : Nat} (hj : j < n) : ixN n (j : Int) = some j := by
  unfold ixN
  simp [hj]
abbrev s_go : Stmt := inClass (top 53) 3
/-- the heap behind a go, but for the list of the steps done -/
def goHp (CR r : Addr) (R : RS) (n : Nat) (t2 plv : Addr) (H3 : Hp) : Hp := upd (upd H3 r (.ins CR R.dx (rF (.ref R.sh) (.ref t2) (.ref R.pl) (.ref R.dn)))) R.pl (.lst ((R.places.map fun x => V.ref x.p).set n (.ref plv)))
def GoFin (K : PySem.W.Frag) (CR CP r : Addr) (R : RS) (n : Nat) (y : PS) (t2 : Addr) (ans : V) (Q : VK) : VK := fun pl H3 => ∃ plv, pl = .ref plv ∧ H3 r = some (.ins CR R.dx (rF (.ref R.sh) (.ref R.th) (.ref R.pl) (.ref R.dn))) ∧ H3 R.pl = some (.lst (R.places.map fun x => V.ref x.p)) ∧ H3 R.dn = some (.lst R.done) ∧ R.dn ≠ R.pl ∧ R.done.length < sizeLine ∧
  H3 y.p = some (.ins CP y.dp (pF (.ref y.an) y.pend y.fin (.ref y.tw))) ∧ y.p ≠ r ∧
  ∀ t, goHp CR r R n t2 plv H3 t = none → Q ans (upd (upd (goHp CR r R n t2 plv H3) t (.tup [.int (n : Int), y.pend, ans])) R.dn (.lst (R.done ++ [.ref t])))
def spGo (P : Program) (w : World) (K : PySem.W.Frag) (CR CT CP CW CC pS : Addr) (S : Addr → Option Sp) (Rel : Hp → V → V → Bool → Prop) (spC : Sp) : Sp := fun vs H Q E => ∃ (r : Addr) (R : RS) (x : V) (b : Bool), vs = [.ref r, x] ∧ RunAt K CR CT CP H r R ∧ Whl K H x b ∧ (b = false → EX E CW "number" x H) ∧
  (b = true → ∃ k : Int, x = .int k ∧ (¬ (0 ≤ k ∧ k < (R.places.length : Int)) → EX E CW "number" x H) ∧ ∀ (n : Nat) y, k = (n : Int) → R.places[n]? = some y → ∃ c, CanGo K Rel H R.T y.pend c ∧ ∀ H1, Same H H1 → (c = false → EX E CC "number" x H1) ∧
    (c = true → ∀ (t2 dx cd hd rd : Addr) (G : Hp), H1 t2 = none → H1 dx = none → H1 cd = none → H1 hd = none → H1 rd = none → Same H1 G → ThingsAt K CT G t2 { R.T with dx := dx, cd := cd, hd := hd, rd := rd } →
      spDoStep K w pS S [.ref t2, x, y.pend] G (fun ans H2 => H2 r = some (.ins CR R.dx (rF (.ref R.sh) (.ref R.th) (.ref R.pl) (.ref R.dn))) ∧ PlaceAt K CP H2 y ∧ y.ans.length + 1 ≤ 100000 ∧
        ∀ an2 H3, Same H2 H3 → SqT K H3 an2 (y.ans ++ [ans]) → spC [.ref R.sh, x, .ref an2] H3 (GoFin K CR CP r R n y t2 ans Q) E) E0))
section
variable {P : Program} {w : World} {K : PySem.W.Frag} {mg : Str → Option Value} {base : Heap} {CR CT CP CW CC pS : Addr} {N : Nat}
def spUp0 (s1 : Sp) : Sp := fun vs H Q _ => ∃ (Q0 : VK) (E0 : XK), s1 vs H Q0 E0 ∧ ∀ v H', Q0 v H' → Q v H'
theorem fnOk_up0 {k : Nat} {f : Addr} {fd : FuncData} {ps : List Str} {sp : Sp} (F : FnOk P w K mg base CX0 k f fd ps sp) : FnOk P w K mg base CX0 k f fd ps (spUp0 sp) := by
  refine ⟨fun vs H Q E h => ?_, fun A outer s H args us vs Q E hr he hb hv hs => ?_⟩
  · obtain ⟨Q0, E0, h, _⟩ := h
    exact F.len _ _ _ _ h
  · obtain ⟨Q0, E0, h, hq⟩ := hs
    refine codeAny_mono (F.run A outer s H args us vs Q0 E0 hr he hb hv h) fun r s' c => ?_
    cases r with
    | error e => exact False.elim c
    | ok fl =>
      cases fl with
      | ret u =>
        obtain ⟨v, H', e1, e2, e3, e4, e5, e6⟩ := c
        exact ⟨v, H', e1, e2, e3, e4, e5, hq _ _ e6⟩
      | next => exact False.elim c
      | brk => exact False.elim c
      | cont => exact False.elim c
theorem fnOk_up {k : Nat} {f : Addr} {fd : FuncData} {ps : List Str} {sp : Sp} (F : FnOk P w K mg base (L2.CX P w) k f fd ps sp) : FnOk P w K mg base (L2.CX P w) k f fd ps (spUp sp) := by
  refine ⟨fun vs H Q E h => ?_, fun A outer s H args us vs Q E hr he hb hv hs => ?_⟩
  · obtain ⟨Q0, E0, h, _⟩ := h
    exact F.len _ _ _ _ h
  · obtain ⟨Q0, E0, h, h2, h3⟩ := hs
    exact codeAny_mono (F.run A outer s H args us vs Q0 E0 hr he hb hv h) fun r s' c => cr_up h2 h3 c
theorem sc_go : FnScope ["self", "k", "place", "things", "answer", "following"] ["self", "k"] (defScope s_go) := ⟨rfl, rfl, rfl, by decide +kernel, rfl, by decide +kernel, by decide +kernel⟩
theorem ok_go {f fP fG fA fD fC : Addr} {fd fdP fdG fdA fdD fdC : FuncData} {Rel : Hp → V → V → Bool → Prop} {S : Addr → Option Sp} {spC : Sp} (F : Fun K "go" "Run.go" s_go f fd) (X : RTxt K CR) (XP : PTxt K CP) (hN : 2 ≤ N)
    (GP : FnOk P w K mg base (L2.CX P w) N fP fdP ["run", "k"] (spPlace K CR CT CP CW)) (mP : mg "place_of" = some (.ref fP)) (kP : PySem.W.keepIn K (.ref fP) = true) (bP : Binds K fdP ["run", "k"] [])
    (GG : FnOk P w K mg base CX0 N fG fdG ["run", "place"] (spCanGo K CR CT CP Rel)) (mG : mg "can_go" = some (.ref fG)) (kG : PySem.W.keepIn K (.ref fG) = true) (bG : Binds K fdG ["run", "place"] [])
    (Z : Err1 P w K mg base "CanNot" "number" CC)
    (GA : FnOk P w K mg base CX0 N fA fdA ["things"] (spAgain K CT)) (mA : mg "things_again" = some (.ref fA)) (kA : PySem.W.keepIn K (.ref fA) = true) (bA : Binds K fdA ["things"] [])
    (GD : FnOk P w K mg base CX0 N fD fdD ["things", "k", "wish"] (spDoStep K w pS S)) (mD : mg "do_step" = some (.ref fD)) (kD : PySem.W.keepIn K (.ref fD) = true) (bD : Binds K fdD ["things", "k", "wish"] [])
    (GC : FnOk P w K mg base (L2.CX P w) N fC fdC ["shop", "k", "answers"] spC) (mC : mg "come" = some (.ref fC)) (kC : PySem.W.keepIn K (.ref fC) = true) (bC : Binds K fdC ["shop", "k", "answers"] []) :
    FnOk P w K mg base (L2.CX P w) (N + 1) f fd ["self", "k"] (spGo P w K CR CT CP CW CC pS S Rel spC) := by
  obtain ⟨fI, fdI, z, g⟩ := Z.ex
  refine F.okX sc_go (fun vs H Q E h => ?_) (fun cdv A outer s H vs Q E hr h => ?_)
  · obtain ⟨r, R, x, b, rfl, _⟩ := h
    rfl
  · obtain ⟨r, R, x, b, rfl, hR, hW, k1, k2⟩ := h
    have hr2 : Room 2 _ := hr.mono hN
    refine ⟨_, pss_cons (ps_set (i := 2) sc_go.nd rfl (.inl rfl) (pe_callS GP hr rfl mP kP bP (fun σ => passAt (takes_of (E := E) rfl rfl rfl rfl) σ) (pa_cons (pv 0) (pa_cons (pv 1) pa_nil))))
      (pss_cons (ps_if (pt_not (pt_val (pe_call GG hr rfl mG kG bG .nil pass0 (pa_cons (pv 0) (pa_cons (pv 2) pa_nil))))) (pss_one (ps_raise rfl (takes_of (E := E) rfl rfl rfl rfl) (pmk_err z g hr2 Z.m (pa_cons (pv 1) pa_nil)))) pss_nil)
      (pss_cons (ps_set (i := 3) sc_go.nd rfl (.inl rfl) (pe_call GA hr rfl mA kA bA .nil pass0 (pa_cons (pe_fld (pv 0) rfl) pa_nil)))
      (pss_cons (ps_set (i := 4) sc_go.nd rfl (.inl rfl) (pe_call (fnOk_up0 GD) hr rfl mD kD bD .nil pass0 (pa_cons (pv 3) (pa_cons (pv 1) (pa_cons (pe_fld (pv 2) rfl) pa_nil)))))
      (pss_cons (ps_set (i := 5) sc_go.nd rfl (.inl rfl) (pe_callS (fnOk_up GC) hr rfl mC kC bC (fun σ => passAt (takes_of (E := E) rfl rfl rfl rfl) σ) (pa_cons (pe_fld (pv 0) rfl) (pa_cons (pv 1) (pa_cons (pe_op op_catT2 (pe_fld (pv 2) rfl) (pe_tup (pa_cons (pv 4) pa_nil))) pa_nil)))))
      (pss_cons (ps_fld (pv 0) (pv 3) rfl)
      (pss_cons (ps_asg (pv 5) (pg_sub (pe_fld (pv 0) rfl) (pv 1) set_list))
      (pss_cons (ps_expr (pe_bm PySem.F.plainAttrs_list PySem.F.slot_list_append PySem.F.type_list_append mt_append (pe_fld (pv 0) rfl) (pa_cons (pe_tup (pa_cons (pv 1) (pa_cons (pe_fld (pv 2) rfl) (pa_cons (pv 4) pa_nil)))) pa_nil)))
      (pss_one (ps_ret (pv 4)))))))))), ?_⟩
    refine ⟨_, rfl, _, rfl, r, R, x, b, rfl, hR, hW, k1, fun hb => ?_⟩
    obtain ⟨k, rfl, q2, q1⟩ := k2 hb
    refine ⟨k, rfl, fun n y en ey => ?_, q2⟩
    subst en
    obtain ⟨c, hC, hgo⟩ := q1 n y rfl ey
    have hP := hR.e y (List.mem_of_getElem? ey)
    refine ⟨_, rfl, _, rfl, r, R, y, c, rfl, hR, hP, hC, fun H1 s1 => ⟨_, rfl, ?_⟩⟩
    cases c with
    | false => exact iteT ⟨_, rfl, _, rfl, (hgo H1 s1).1 rfl⟩
    | true =>
      refine iteF ?_
      have hR1 := hR.same s1
      refine ⟨_, rfl, r, CR, R.dx, _, _, rfl, hR1.ob, X.cl, X.things, rF_get1, R.th, R.T, rfl, hR1.t, fun t2 dx cd hd rd G n1 n2 n3 n4 n5 s2 hT => ?_⟩
      have hg := (hgo H1 s1).2 rfl t2 dx cd hd rd G n1 n2 n3 n4 n5 s2 hT
      have hP2 := (hP.same s1).same s2
      refine ⟨_, rfl, _, rfl, _, rfl, y.p, CP, y.dp, _, _, rfl, hP2.ob, XP.cl, XP.pending, pF_get1, ?_⟩
      refine ⟨_, _, hg, fun ans H2 q => ?_⟩
      obtain ⟨o2, p2, sz, hq⟩ := q
      refine ⟨_, rfl, r, CR, R.dx, _, _, rfl, o2, X.cl, X.shop, rF_get0, _, rfl, _, rfl, y.p, CP, y.dp, _, _, rfl, p2.ob, XP.cl, XP.answers, pF_get0, _, rfl, small_sz (n := 1) (by decide), fun t ht => ?_⟩
      have st := same_new (o := HO.tup [ans]) ht
      refine ⟨y.an, t, y.ans, [ans], rfl, rfl, seqT_same st p2.a, SqT.of upd_same, small_sz sz, fun e => ?_, fun _ e => (nomatch e), fun _ _ p hp => ?_⟩
      · have z := hq t _ st (by rw [e]; exact SqT.of upd_same)
        refine ⟨_, _, z, fun pl H3 q => ?_, fun _ _ _ z => z⟩
        obtain ⟨plv, rfl, o3, l3, d3, ne, few, py, pne, hq⟩ := q
        have hn : n < (R.places.map fun x => V.ref x.p).length := by
          rw [List.length_map]
          exact (List.getElem?_eq_some_iff.mp ey).1
        refine ⟨_, rfl, _, rfl, r, CR, R.dx, _, rfl, o3, X.cl, X.things, (by show 4 < 1000; decide), ?_⟩
        rw [rF_put1]
        have l4 : upd H3 r (.ins CR R.dx (rF (.ref R.sh) (.ref t2) (.ref R.pl) (.ref R.dn))) R.pl = _ := (upd_ne (ne_of l3 o3 (by intro z; cases z))).trans l3
        refine ⟨_, rfl, _, rfl, r, CR, R.dx, _, _, rfl, upd_same, X.cl, X.places, rF_get2, _, rfl, R.pl, _, _, n, rfl, rfl, l4, ixN_at hn, ?_⟩
        have o5 : goHp CR r R n t2 plv H3 r = some (.ins CR R.dx (rF (.ref R.sh) (.ref t2) (.ref R.pl) (.ref R.dn))) := (upd_ne (ne_of o3 l3 (by intro z; cases z))).trans upd_same
        have d5 : goHp CR r R n t2 plv H3 R.dn = some (.lst R.done) := (upd_ne ne).trans ((upd_ne (ne_of d3 o3 (by intro z; cases z))).trans d3)
        have y5 : goHp CR r R n t2 plv H3 y.p = _ := (upd_ne (ne_of py l3 (by intro z; cases z))).trans ((upd_ne pne).trans py)
        refine ⟨_, rfl, r, CR, R.dx, _, _, rfl, o5, X.cl, X.done, rF_get3, .inl ⟨rfl, _, SqL.of d5⟩, ?_⟩
        refine ⟨_, rfl, _, rfl, y.p, CP, y.dp, _, _, rfl, y5, XP.cl, XP.pending, pF_get1, _, rfl, small_sz (n := 3) (by decide), fun tt htt => ?_⟩
        exact ⟨R.dn, _, _, rfl, rfl, (upd_ne (ne_of_none d5 htt)).trans d5, few, _, rfl, hq tt htt⟩
      · have z := hq p _ (st.trans (same_new hp)) (SqT.of upd_same)
        refine ⟨_, _, z, fun pl H3 q => ?_, fun _ _ _ z => z⟩
        obtain ⟨plv, rfl, o3, l3, d3, ne, few, py, pne, hq⟩ := q
        have hn : n < (R.places.map fun x => V.ref x.p).length := by
          rw [List.length_map]
          exact (List.getElem?_eq_some_iff.mp ey).1
        refine ⟨_, rfl, _, rfl, r, CR, R.dx, _, rfl, o3, X.cl, X.things, (by show 4 < 1000; decide), ?_⟩
        rw [rF_put1]
        have l4 : upd H3 r (.ins CR R.dx (rF (.ref R.sh) (.ref t2) (.ref R.pl) (.ref R.dn))) R.pl = _ := (upd_ne (ne_of l3 o3 (by intro z; cases z))).trans l3
        refine ⟨_, rfl, _, rfl, r, CR, R.dx, _, _, rfl, upd_same, X.cl, X.places, rF_get2, _, rfl, R.pl, _, _, n, rfl, rfl, l4, ixN_at hn, ?_⟩
        have o5 : goHp CR r R n t2 plv H3 r = some (.ins CR R.dx (rF (.ref R.sh) (.ref t2) (.ref R.pl) (.ref R.dn))) := (upd_ne (ne_of o3 l3 (by intro z; cases z))).trans upd_same
        have d5 : goHp CR r R n t2 plv H3 R.dn = some (.lst R.done) := (upd_ne ne).trans ((upd_ne (ne_of d3 o3 (by intro z; cases z))).trans d3)
        have y5 : goHp CR r R n t2 plv H3 y.p = _ := (upd_ne (ne_of py l3 (by intro z; cases z))).trans ((upd_ne pne).trans py)
        refine ⟨_, rfl, r, CR, R.dx, _, _, rfl, o5, X.cl, X.done, rF_get3, .inl ⟨rfl, _, SqL.of d5⟩, ?_⟩
        refine ⟨_, rfl, _, rfl, y.p, CP, y.dp, _, _, rfl, y5, XP.cl, XP.pending, pF_get1, _, rfl, small_sz (n := 3) (by decide), fun tt htt => ?_⟩
        exact ⟨R.dn, _, _, rfl, rfl, (upd_ne (ne_of_none d5 htt)).trans d5, few, _, rfl, hq tt htt⟩
end
end TW
namespace TW
open PySem PySem.Spec PyProof.Rows L2
abbrev s_ends : Stmt := inClass (top 53) 6
abbrev s_over : Stmt := inClass (top 53) 12
def spEnds (K : PySem.W.Frag) (CR CT CP : Addr) : Sp := fun vs H Q _ => ∃ (r : Addr) (R : RS), vs = [.ref r] ∧ RunAt K CR CT CP H r R ∧ R.places.length ≤ 1000 ∧ ∀ (t : Addr) (H' : Hp), H t = none → Same H H' → H' t = some (.tup (R.places.map PS.fin)) → Q (.ref t) H'
def spOver (K : PySem.W.Frag) (CR CT CP : Addr) (Rel : Hp → V → V → Bool → Prop) : Sp := fun vs H Q _ => ∃ (r : Addr) (R : RS) (f : Nat → Bool), vs = [.ref r] ∧ RunAt K CR CT CP H r R ∧ R.places.length ≤ 1000 ∧ (∀ (i : Nat) y, R.places[i]? = some y → CanGo K Rel H R.T y.pend (f i)) ∧
  ∀ H', Same H H' → Q (.bl (upTo f R.places.length).isEmpty) H'
section
variable {P : Program} {w : World} {K : PySem.W.Frag} {mg : Str → Option Value} {base : Heap} {CR CT CP CW : Addr} {n : Nat}
theorem sc_ends : FnScope ["self", "place"] ["self"] (defScope s_ends) := ⟨rfl, rfl, rfl, by decide +kernel, rfl, by decide +kernel, by decide +kernel⟩
theorem ok_ends {f : Addr} {fd : FuncData} (F : Fun K "ends" "Run.ends" s_ends f fd) (B : Blt mg) (X : RTxt K CR) (XP : PTxt K CP) : FnOk P w K mg base CX0 1 f fd ["self"] (spEnds K CR CT CP) := by
  refine F.ok sc_ends (fun vs H Q E h => ?_) (fun cdv A outer s H vs Q E hr h => ?_)
  · obtain ⟨r, R, rfl, _⟩ := h
    rfl
  · obtain ⟨r, R, rfl, hR, few, hq⟩ := h
    refine ⟨_, pss_one (ps_ret (pe_callTy call_tuple_of (by rfl) B.tuple (by decide +kernel) (pa_cons (pe_lc (own := [("place", 1)]) rfl sc_ends.nd (pi_list (pe_fld (pv 0) rfl)) (blkOk_by (N := ["self", "place"]) (sc := defScope s_ends) (by decide +kernel))
      (fun _ _ _ _ _ => pg_name (i := 1) sc_ends.nd rfl (Or.inl rfl)) (fun _ _ _ _ _ => pts_nil) (te := tFld K (tVar 1) "end") (fun _ _ _ _ _ => by exact pe_fld (pv 1) rfl)) pa_nil))), ?_⟩
    refine ⟨_, rfl, r, CR, R.dx, _, _, rfl, hR.ob, X.cl, X.places, rF_get2, R.pl, rfl, ⟨_, SqL.of hR.p⟩, fun D hD => ?_⟩
    refine lc_list (K := K) (a := R.pl) (xs := R.places.map fun x => V.ref x.p) (fun i H' => Same H H' ∧ H' D = some (.lst ((R.places.take i).map PS.fin))) ⟨same_new hD, upd_same⟩ (fun i H' _ p => SqL.of (p.1 _ _ hR.p)) (fun i x H' e p => ?_) (fun H1 p => ?_)
    · rw [List.getElem?_map] at e
      cases q : R.places[i]? with
      | none =>
        rw [q] at e
        cases e
      | some y =>
        rw [q] at e
        obtain rfl := (Option.some.inj e).symm
        have hP := (hR.e y (List.mem_of_getElem? q)).same p.1
        refine ⟨rfl, ?_⟩
        unfold tYes
        dsimp only
        refine iteT ?_
        refine ⟨_, rfl, y.p, CP, y.dp, _, _, rfl, hP.ob, XP.cl, XP.end_, pF_get2, _, p.2, ?_, fun b o z => ?_, ?_⟩
        · rw [List.length_map, List.length_take]
          exact Nat.lt_of_lt_of_le (Nat.lt_succ_of_le (Nat.le_trans (Nat.min_le_right _ _) few)) (small_sz (by decide))
        · rw [upd_ne (ne_of_none z hD)]
          exact p.1 b o z
        · rw [upd_same, take_one q, List.map_append]
          rfl
    · have z := p.2
      rw [List.length_map, List.take_length] at z
      refine ⟨D, _, rfl, .inl ⟨SqL.of z, fun t ht => ?_⟩⟩
      exact hq t _ (p.1.free ht) (p.1.trans (same_new ht)) upd_same
theorem sc_over : FnScope ["self"] ["self"] (defScope s_over) := ⟨rfl, rfl, rfl, by decide +kernel, rfl, by decide +kernel, by decide +kernel⟩
theorem ok_over {f fC : Addr} {fd fdC : FuncData} {Rel : Hp → V → V → Bool → Prop} (F : Fun K "is_over" "Run.is_over" s_over f fd) (X : RTxt K CR) (hM : Meth K CR "can" fC) (G : FnOk P w K mg base CX0 (n + 4) fC fdC ["self"] (spCan K CR CT CP Rel)) (bC : Binds K fdC ["self"] []) :
    FnOk P w K mg base CX0 (n + 5) f fd ["self"] (spOver K CR CT CP Rel) := by
  refine F.ok sc_over (fun vs H Q E h => ?_) (fun cdv A outer s H vs Q E hr h => ?_)
  · obtain ⟨r, R, g, rfl, _⟩ := h
    rfl
  · obtain ⟨r, R, g, rfl, hR, few, hC, hq⟩ := h
    refine ⟨_, pss_one (ps_ret (pe_notT (pe_meth0 (pv 0) X.cl hM G hr bC .nil pass0))), ?_⟩
    refine ⟨_, rfl, r, R.dx, _, rfl, hR.ob, rF_no (by decide) (by decide) (by decide) (by decide), ?_⟩
    refine ⟨r, R, g, rfl, hR, few, hC, fun D H' hD sm e => ?_⟩
    refine ⟨_, .inl ⟨_, SqL.of e, rfl⟩, ?_⟩
    rw [Bool.not_not]
    exact hq H' sm
end
end TW
namespace TW
open PySem PySem.Spec PyProof.Rows L2
theorem walk_zipT {K : PySem.W.Frag} {a b : Addr} {xs ys : List V} {n : Nat} (hn : n = min xs.length ys.length) : Walk (RZ.ItzT K a b) n (fun H => SqT K H a xs ∧ SqT K H b ys) (YPair (fun i => xs[i]?) (fun i => ys[i]?)) := by
  subst hn
  constructor
  · intro i H hi q
    have h1 : i < xs.length := by omega
    have h2 : i < ys.length := by omega
    exact ⟨xs, ys, xs[i], ys[i], q.1, q.2, by simp [h1], by simp [h2]⟩
  · intro H q
    exact ⟨xs, ys, q.1, q.2, by omega⟩
  · rintro i H v H' _ q ⟨T, x, z, h1, h2, h3, h4, h5⟩
    exact ⟨T, x, z, h1, h2, h3, h4 xs q.1, h5 ys q.2⟩
/-- whether two values are the same, nested at most n deep; base: all but two tuples (numbers and tuples are compared only where neither or both are truths) -/
inductive Sm (K : PySem.W.Frag) (H : Hp) : Nat → V → V → Bool → Prop where
  | base (n : Nat) {x y : V} {T U : String} {i1 i2 ib jb : Bool} (tx : ∀ H', Same H H' → TyX K H' x (.type T)) (ty : ∀ H', Same H H' → TyX K H' y (.type U)) (k1 : kitB T "tuple" = some i1) (k2 : kitB U "tuple" = some i2) (k3 : (i1 && i2) = false)
      (b1 : kitB T "bool" = some ib) (b2 : kitB U "bool" = some jb) (sc : ib = jb → scal x y = true) : Sm K H n x y ((ib == jb) && decide (x = y))
  | tupN (n : Nat) {a c : Addr} {xs ys : List V} (ha : SqT K H a xs) (hc : SqT K H c ys) (ne : xs.length ≠ ys.length) : Sm K H n (.ref a) (.ref c) false
  | tup {n : Nat} {a c : Addr} {xs ys : List V} {bs : List Bool} (ha : SqT K H a xs) (hc : SqT K H c ys) (hl : xs.length = ys.length) (hb : xs.length = bs.length) (few : xs.length ≤ 1000)
      (each : ∀ (i : Nat) (x y : V) (b : Bool), xs[i]? = some x → ys[i]? = some y → bs[i]? = some b → Sm K H n x y b) : Sm K H (n + 1) (.ref a) (.ref c) (bs.all id)
theorem Sm.same {K : PySem.W.Frag} {H H' : Hp} {n : Nat} {x y : V} {b : Bool} (e : Same H H') (h : Sm K H n x y b) : Sm K H' n x y b := by
  induction h with
  | base n tx ty k1 k2 k3 b1 b2 sc => exact .base n (fun H'' z => tx H'' (e.trans z)) (fun H'' z => ty H'' (e.trans z)) k1 k2 k3 b1 b2 sc
  | tupN n ha hc ne => exact .tupN n (seqT_same e ha) (seqT_same e hc) ne
  | tup ha hc hl hb few _ ih => exact .tup (seqT_same e ha) (seqT_same e hc) hl hb few fun i x y b h1 h2 h3 => ih i x y b h1 h2 h3
theorem Sm.keeps {K : PySem.W.Frag} {n : Nat} : Keeps (fun H x y b => Sm K H n x y b) := fun _ _ _ _ _ e h => h.same e
abbrev sSm : Stmt := top 18
section
variable {P : Program} {w : World} {K : PySem.W.Frag} {mg : Str → Option Value} {base : Heap}
theorem scSm : FnScope ["one", "other", "inner", "partner"] ["one", "other"] (defScope sSm) := ⟨rfl, rfl, rfl, by decide +kernel, rfl, by decide +kernel, by decide +kernel⟩
theorem sm_body {f : Addr} {fd : FuncData} {n k : Nat} {spR : Sp} (F : Fun K "same" "same" sSm f fd) (B : Blt mg) (hm : mg "same" = some (.ref f)) (bS : Binds K fd ["one", "other"] [])
    (R : FnOk P w K mg base CX0 k f fd ["one", "other"] spR) (hR : ∀ m, n = m + 1 → spR = spSm (fun H x y b => Sm K H m x y b)) : FnOk P w K mg base CX0 (k + 1) f fd ["one", "other"] (spSm (fun H x y b => Sm K H n x y b)) := by
  refine F.ok scSm (fun vs H Q E h => ?_) (fun cdv A outer s H vs Q E hr h => ?_)
  · obtain ⟨x, y, b, rfl, _⟩ := h
    rfl
  · obtain ⟨x, y, b, rfl, hV, kQ⟩ := h
    refine ⟨_, pss_cons (ps_if (PW.pt (pw_and (pt_val (pe_callB call_isi (by rfl) B.isi (by decide +kernel) (pa_cons (pv 0) (pa_cons (pe_bltn (v := .ty "tuple") (by rfl) B.tuple (by decide +kernel) rfl) pa_nil))))
          (pw_and1 (pt_val (pe_callB call_isi (by rfl) B.isi (by decide +kernel) (pa_cons (pv 1) (pa_cons (pe_bltn (v := .ty "tuple") (by rfl) B.tuple (by decide +kernel) rfl) pa_nil)))))))
        (pss_cons (ps_if (pt_cmpR op_ne (pe_callB call_len_seq (by rfl) B.len PySem.boot_len (pa_cons (pv 0) pa_nil)) (pe_callB call_len_seq (by rfl) B.len PySem.boot_len (pa_cons (pv 1) pa_nil)) (nomark _)) (pss_one (ps_ret pe_bl)) pss_nil)
        (pss_one (ps_ret (pe_callB (cr_all rfl) (by rfl) B.all (by decide +kernel) (pa_cons
          (pe_lc (own := [("inner", 2), ("partner", 3)]) rfl scSm.nd (RZ.pi_zipA (by rfl) B.zip (pa_cons (pv 0) (pa_cons (pv 1) pa_nil))) (blkOk_by (N := ["one", "other", "inner", "partner"]) (sc := defScope sSm) (by decide +kernel))
            (fun _ _ _ _ _ => pg_tupC (n := 2) rfl (pgs_cons (pg_name (i := 2) scSm.nd rfl (Or.inl rfl)) (pgs_cons (pg_name (i := 3) scSm.nd rfl (Or.inl rfl)) pgs_nil))) (fun _ _ _ _ _ => pts_nil)
            (fun _ _ _ _ _ => pe_call R hr rfl hm F.kp bS .nil pass0 (pa_cons (pv 2) (pa_cons (pv 3) pa_nil)))) pa_nil))))) pss_nil)
      (pss_one (ps_ret (pe_and (pe_cmpR op_eq (pe_callB call_isi (by rfl) B.isi (by decide +kernel) (pa_cons (pv 0) (pa_cons (pe_bltn (v := .ty "bool") (by rfl) B.bool (by decide +kernel) rfl) pa_nil))) (pe_callB call_isi (by rfl) B.isi (by decide +kernel) (pa_cons (pv 1) (pa_cons (pe_bltn (v := .ty "bool") (by rfl) B.bool (by decide +kernel) rfl) pa_nil))) (nomark _))
        (pe_one (pe_cmpR op_eq (pv 0) (pv 1) (nomark _)))))), ?_⟩
    cases hV with
    | @base _ _ _ T U i1 i2 ib jb tx ty k1 k2 k3 b1 b2 sc =>
      refine ⟨_, rfl, _, _, _, _, _, rfl, .ty _, tx _ (Same.refl _), kit_ty k1, _, rfl, ?_⟩
      cases i1 with
      | false =>
        refine iteF (iteF ?_)
        refine ⟨_, rfl, _, _, _, _, _, rfl, .ty _, tx _ (Same.refl _), kit_ty b1, _, rfl, _, _, _, _, _, rfl, .ty _, ty _ (Same.refl _), kit_ty b2, rfl, _, rfl, ?_⟩
        have z := kQ _ (Same.refl _)
        by_cases c : ib = jb
        · subst c
          refine iteD rfl ?_
          refine ⟨_, rfl, _, rfl, sc rfl, ?_⟩
          have e : (ib == ib) = true := by cases ib <;> rfl
          rw [e, Bool.true_and] at z
          exact z
        · rw [decide_eq_false (fun z => c (V.bl.inj z))]
          have e : (ib == jb) = false := by
            cases ib <;> cases jb <;> first | rfl | exact absurd rfl c
          rw [e, Bool.false_and] at z
          exact iteF z
      | true =>
        refine iteT ?_
        have e2 : i2 = false := k3
        subst e2
        refine ⟨_, rfl, _, _, _, _, _, rfl, .ty _, ty _ (Same.refl _), kit_ty k2, _, rfl, ?_⟩
        refine iteF ?_
        refine ⟨_, rfl, _, _, _, _, _, rfl, .ty _, tx _ (Same.refl _), kit_ty b1, _, rfl, _, _, _, _, _, rfl, .ty _, ty _ (Same.refl _), kit_ty b2, rfl, _, rfl, ?_⟩
        have z := kQ _ (Same.refl _)
        by_cases c : ib = jb
        · subst c
          refine iteD rfl ?_
          refine ⟨_, rfl, _, rfl, sc rfl, ?_⟩
          have e : (ib == ib) = true := by cases ib <;> rfl
          rw [e, Bool.true_and] at z
          exact z
        · rw [decide_eq_false (fun z => c (V.bl.inj z))]
          have e : (ib == jb) = false := by
            cases ib <;> cases jb <;> first | rfl | exact absurd rfl c
          rw [e, Bool.false_and] at z
          exact iteF z
    | @tupN _ a c xs ys ha hc ne =>
      refine ⟨_, rfl, _, _, _, _, _, rfl, .ty _, tyx_tup ha, kit_ty (r := true) (by decide +kernel), _, rfl, ?_⟩
      refine iteT ?_
      refine ⟨_, rfl, _, _, _, _, _, rfl, .ty _, tyx_tup hc, kit_ty (r := true) (by decide +kernel), _, rfl, ?_⟩
      refine iteT ?_
      refine ⟨_, rfl, a, _, rfl, .inr ha, _, rfl, c, _, rfl, .inr hc, rfl, _, rfl, ?_⟩
      rw [decide_eq_false (by intro z; apply ne; have := V.int.inj z; omega)]
      exact iteT (kQ _ (Same.refl _))
    | @tup m a c xs ys bs ha hc hl hb few each =>
      have e := hR m rfl
      subst e
      refine ⟨_, rfl, _, _, _, _, _, rfl, .ty _, tyx_tup ha, kit_ty (r := true) (by decide +kernel), _, rfl, ?_⟩
      refine iteT ?_
      refine ⟨_, rfl, _, _, _, _, _, rfl, .ty _, tyx_tup hc, kit_ty (r := true) (by decide +kernel), _, rfl, ?_⟩
      refine iteT ?_
      refine ⟨_, rfl, a, _, rfl, .inr ha, _, rfl, c, _, rfl, .inr hc, rfl, _, rfl, ?_⟩
      rw [decide_eq_true (by rw [hl])]
      refine iteF ?_
      refine ⟨_, rfl, _, rfl, a, c, xs, ys, rfl, .inr ⟨ha, hc, fun D hD => ?_⟩⟩
      refine lc_it (walk_zipT rfl) (fun i H' => Same H H' ∧ H' D = some (.lst ((bs.take i).map V.bl))) ⟨same_new hD, upd_same⟩ (fun i H' _ z => ⟨seqT_same z.1 ha, seqT_same z.1 hc⟩) ?_ ?_
      · rintro i v H' H'' hi ⟨z, hd⟩ ⟨T', x, y, rfl, hT', rfl, hx, hy⟩
        have hib : i < bs.length := by omega
        have eb : bs[i]? = some bs[i] := List.getElem?_eq_getElem hib
        refine ⟨T', [x, y], rfl, SqT.of upd_same, rfl, x, [y], rfl, y, [], rfl, rfl, rfl, ?_⟩
        unfold tYes
        dsimp only
        refine iteT ?_
        refine ⟨_, rfl, _, rfl, x, y, bs[i], rfl, (each i x y _ hx hy eb).same (z.trans (same_new hT')), fun H4 s4 => ?_⟩
        refine ⟨_, s4 _ _ (same_new hT' _ _ hd), ?_, fun c o e => ?_, ?_⟩
        · rw [List.length_map, List.length_take]
          exact Nat.lt_of_lt_of_le (Nat.lt_succ_of_le (Nat.le_trans (Nat.min_le_right _ _) (hb ▸ few))) (small_sz (by decide))
        · rw [upd_ne (ne_of_none e hD)]
          exact s4 c o (same_new hT' c o (z c o e))
        · rw [upd_same, take_one eb, List.map_append]
          rfl
      · rintro H' ⟨z, hd⟩
        rw [show min xs.length ys.length = bs.length by omega, List.take_length] at hd
        exact ⟨D, bs, rfl, SqL.of hd, kQ _ z⟩
theorem ok_same {f : Addr} {fd : FuncData} (F : Fun K "same" "same" sSm f fd) (B : Blt mg) (hm : mg "same" = some (.ref f)) (bS : Binds K fd ["one", "other"] []) : ∀ n, FnOk P w K mg base CX0 (n + 1) f fd ["one", "other"] (spSm (fun H x y b => Sm K H n x y b))
  | 0 => sm_body (spR := fun _ _ _ _ => False) F B hm bS fn_never (fun m e => nomatch e)
  | n + 1 => sm_body F B hm bS (ok_same F B hm bS n) (fun m e => by cases e; rfl)
end
end TW
namespace L2
open PySem PySem.Spec PyProof.Rows
/-- of a callee that raises nothing -/
theorem passN {X : Cx} : Passes (L2.CX X.prog X.w) X E0 := fun _ _ _ _ _ _ _ h => (cx_false h).elim
end L2
namespace TW
open PySem PySem.Spec PyProof.Rows L2
abbrev sRI : Stmt := inClass (top 53) 0
/-- a new run: the things first, then a place for each work, whose runs raise nothing -/
def spRI (K : PySem.W.Frag) (CR CS CT : Addr) (spC : Sp) : Sp := fun vs H Q _ => ∃ (r dx sh : Addr) (S : SS) (m : Nat), vs = [.ref r, .ref sh] ∧ H r = some (.ins CR dx []) ∧ S.many = (m : Int) ∧ m ≤ 1000 ∧
  spFirst K CS CT [.ref sh] (upd H r (.ins CR dx [("shop", .ref sh)])) (fun tv G => G r = some (.ins CR dx [("shop", .ref sh)]) ∧ ShopAt K CS G sh S ∧ sh ≠ r ∧
    ∀ D, upd G r (.ins CR dx [("shop", .ref sh), ("things", tv)]) D = none → ∃ Pv : Nat → Hp → List V → Prop, Pv 0 (upd (upd G r (.ins CR dx [("shop", .ref sh), ("things", tv)])) D (.lst [])) [] ∧
      (∀ i H1 acc, i < m → Pv i H1 acc → H1 D = some (.lst acc) → ∀ t, H1 t = none → spC [.ref sh, .int (i : Nat), .ref t] (upd H1 t (.tup [])) (fun pl H2 => H2 D = some (.lst acc) ∧ Pv (i + 1) (upd H2 D (.lst (acc ++ [pl]))) (acc ++ [pl])) E0) ∧
      (∀ H1 acc, acc.length = m → Pv m H1 acc → H1 D = some (.lst acc) → H1 r = some (.ins CR dx [("shop", .ref sh), ("things", tv)]) ∧
        ∀ l, upd H1 r (.ins CR dx [("shop", .ref sh), ("things", tv), ("places", .ref D)]) l = none → Q .non (upd (upd (upd H1 r (.ins CR dx [("shop", .ref sh), ("things", tv), ("places", .ref D)])) l (.lst [])) r (.ins CR dx (rF (.ref sh) tv (.ref D) (.ref l)))))) E0
section
variable {P : Program} {w : World} {K : PySem.W.Frag} {mg : Str → Option Value} {base : Heap} {CR CS CT : Addr} {N : Nat}
theorem scRI : FnScope ["self", "shop", "k"] ["self", "shop"] (defScope sRI) := ⟨rfl, rfl, rfl, by decide +kernel, rfl, by decide +kernel, by decide +kernel⟩
theorem ok_RI {f fF fC : Addr} {fd fdF fdC : FuncData} {spC : Sp} (F : Fun K "__init__" "Run.__init__" sRI f fd) (B : Blt mg) (X : RTxt K CR) (XS : STxt K CS)
    (GF : FnOk P w K mg base CX0 N fF fdF ["shop"] (spFirst K CS CT)) (mF : mg "first_things" = some (.ref fF)) (kF : PySem.W.keepIn K (.ref fF) = true) (bF : Binds K fdF ["shop"] [])
    (GC : FnOk P w K mg base (L2.CX P w) N fC fdC ["shop", "k", "answers"] spC) (mC : mg "come" = some (.ref fC)) (kC : PySem.W.keepIn K (.ref fC) = true) (bC : Binds K fdC ["shop", "k", "answers"] []) :
    FnOk P w K mg base CX0 (N + 1) f fd ["self", "shop"] (spRI K CR CS CT spC) := by
  refine F.ok scRI (fun vs H Q E h => ?_) (fun cdv A outer s H vs Q E hr h => ?_)
  · obtain ⟨r, dx, sh, S, m, rfl, _⟩ := h
    rfl
  · obtain ⟨r, dx, sh, S, m, rfl, ho, hm, few, h⟩ := h
    refine ⟨_, pss_cons (ps_fld (pv 0) (pv 1) rfl)
      (pss_cons (ps_fld (pv 0) (pe_call (fnOk_up0 GF) hr rfl mF kF bF .nil pass0 (pa_cons (pv 1) pa_nil)) rfl)
      (pss_cons (ps_fld (pv 0) (pe_lc (own := [("k", 2)]) rfl scRI.nd (pi_range1 (by rfl) B.range (pa_cons (pe_fld (pv 1) rfl) pa_nil)) (blkOk_by (N := ["self", "shop", "k"]) (sc := defScope sRI) (by decide +kernel))
        (fun _ _ _ _ _ => pg_name (i := 2) scRI.nd rfl (Or.inl rfl)) (fun _ _ _ _ _ => pts_nil)
        (te := tCall (spUp spC) [] E0 (tCons (tVar 1) (tCons (tVar 2) (tCons (tTup tNil) tNil)))) (fun _ _ _ _ _ => by exact pe_call (fnOk_up GC) hr rfl mC kC bC .nil passN (pa_cons (pv 1) (pa_cons (pv 2) (pa_cons (pe_tup pa_nil) pa_nil))))) rfl)
      (pss_one (ps_fld (pv 0) (pe_lst pa_nil) rfl)))), ?_⟩
    refine ⟨_, rfl, _, rfl, r, CR, dx, _, rfl, ho, X.cl, X.shop, (by show 0 < 1000; decide), ?_⟩
    rw [rF_make0]
    refine ⟨_, rfl, _, _, h, fun tv G q => ?_⟩
    obtain ⟨o1, hS, ne, k⟩ := q
    refine ⟨_, rfl, r, CR, dx, _, rfl, o1, X.cl, X.things, (by show 1 < 1000; decide), ?_⟩
    rw [rF_make1]
    have hob : upd G r (.ins CR dx [("shop", .ref sh), ("things", tv)]) sh = _ := (upd_ne ne).trans hS.ob
    have em : S.many.toNat = m := by
      rw [hm]
      rfl
    refine ⟨_, rfl, sh, CS, S.dx, _, _, rfl, hob, XS.cl, XS.many, sF_get4, S.many, rfl, by rw [hm]; omega, by rw [hm]; omega, fun D hD => ?_⟩
    rw [em]
    obtain ⟨Pv, p0, pst, pen⟩ := k D hD
    refine lc_range (fun i H' => ∃ acc : List V, acc.length = i ∧ Pv i H' acc ∧ H' D = some (.lst acc)) ⟨[], rfl, p0, upd_same⟩ (fun i H' hi p => ?_) (fun H' p => ?_)
    · obtain ⟨acc, la, pp, hd⟩ := p
      refine ⟨rfl, ?_⟩
      unfold tYes
      dsimp only
      refine iteT ?_
      refine ⟨_, rfl, _, rfl, small_sz (n := 0) (by decide), fun t ht => ?_⟩
      have z := pst i H' acc hi pp hd t ht
      rw [← Int.zero_add (i : Int)] at z
      refine ⟨_, _, z, fun y H4 q => ?_, fun _ _ _ z => z⟩
      exact ⟨acc, q.1, Nat.lt_of_lt_of_le (by rw [la]; omega) (small_sz (n := 1001) (by decide)), acc ++ [y], by rw [List.length_append, la]; rfl, q.2, upd_same⟩
    · obtain ⟨acc, la, pp, hd⟩ := p
      obtain ⟨o5, q⟩ := pen H' acc la pp hd
      refine ⟨_, rfl, r, CR, dx, _, rfl, o5, X.cl, X.places, (by show 2 < 1000; decide), ?_⟩
      rw [rF_make2]
      refine ⟨small_sz (n := 0) (by decide), fun l hl => ?_⟩
      refine ⟨_, rfl, r, CR, dx, _, rfl, (upd_ne (ne_of_none upd_same hl)).trans upd_same, X.cl, X.done, (by show 3 < 1000; decide), ?_⟩
      rw [rF_make3]
      exact q l hl
end
end TW
namespace TW
open PySem PySem.Spec PyProof.Rows L2
abbrev s_take : Stmt := inClass (top 26) 6
abbrev s_reach : Stmt := inClass (top 26) 8
/-- a wish for a lock; gain: whether the work holds it behind this answer -/
def spLock (K : PySem.W.Frag) (C CS CH CN : Addr) (word : Str) (gain : V → Option Bool) : Sp := fun vs H Q E => ∃ (hd dx : Addr) (h : HS) (S : SS) (y : V) (b : Bool), vs = [.ref hd, y] ∧ HandAt K C H hd dx h ∧ ShopAt K CS H h.sh S ∧ h.asked ≤ h.ans.length ∧ h.ans.length ≤ 1000 ∧ Among K H S.locks y b ∧ h.mine.length < sizeLine ∧
  ∀ H', Same H H' → (h.halted = true → E (.ref CH) none H') ∧ (h.halted = false → b = false → EX E CN "name" y H') ∧
    (h.halted = false → b = true → ∃ nm, y = .str nm ∧
      (∀ v, h.ans[h.asked]? = some v → ∃ c, gain v = some c ∧ (c = true → Q v (upd (upd H' hd (.ins C dx { h with asked := h.asked + 1 }.fs)) h.md (.dK (putK h.mine (Sum.inr nm) (.bl true))))) ∧ (c = false → Q v (upd H' hd (.ins C dx { h with asked := h.asked + 1 }.fs)))) ∧
      ∀ t, H' t = some (.tup [.str word, y]) → h.asked = h.ans.length → E (.ref CH) none (upd H' hd (.ins C dx { h with pend := .ref t, halted := true }.fs)))
/-- the answer of a reach, as a truth -/
def truthOf : V → Option Bool
  | .bl c => some c
  | _ => none
theorem truthOf_some {v : V} {c : Bool} (e : truthOf v = some c) : v = .bl c := by
  cases v with
  | bl d =>
    have z : d = c := Option.some.inj e
    rw [z]
  | _ => cases e
section
variable {P : Program} {w : World} {K : PySem.W.Frag} {mg : Str → Option Value} {base : Heap} {C CS CH CN CV : Addr} {n : Nat}
theorem sc_take : FnScope ["self", "lock", "answer"] ["self", "lock"] (defScope s_take) := ⟨rfl, rfl, rfl, by decide +kernel, rfl, by decide +kernel, by decide +kernel⟩
theorem ok_take {f : Addr} {fd : FuncData} (F : Fun K "take" "Hand.take" s_take f fd) (T : HTxt K C) (TS : STxt K CS) (Z : Parts P w K mg base C CH CN CV n) : FnOk P w K mg base (L2.CX P w) (n + 5) f fd ["self", "lock"] (spLock K C CS CH CN "take" (fun _ => some true)) := by
  obtain ⟨fC, GC, mC, kC⟩ := Z.c
  obtain ⟨fA, fdA, GA, mA, kA, bA⟩ := Z.a
  refine F.okX sc_take (fun vs H Q E h => ?_) (fun cdv A outer s H vs Q E hr h => ?_)
  · obtain ⟨hd, dx, h, S, y, b, rfl, _⟩ := h
    rfl
  · obtain ⟨hd, dx, h, S, y, b, rfl, hA, hS, le, few, hY, lm, kk⟩ := h
    have hu := hu_of hr
    have hr2 : Room 2 _ := hr.mono (by omega)
    refine ⟨_, pss_cons (ps_expr (pe_callR GC hr kC rfl mC (passes_call (takes_of (E := E) rfl rfl rfl rfl) fun _ _ _ _ z => z) (pa_cons (pv 0) (pa_cons (pe_fld (pe_fld (pv 0) rfl) rfl) (pa_cons (pv 1) pa_nil)))))
      (pss_cons (ps_set (i := 2) sc_take.nd rfl (.inl rfl) (pe_callS GA hr2 rfl mA kA bA (fun σ => passAt (takes_of (E := E) rfl rfl rfl rfl) σ) (pa_cons (pv 0) (pa_cons (pe_tup (pa_cons pe_str (pa_cons (pv 1) pa_nil))) pa_nil))))
      (pss_cons (ps_dput hu (pe_fld (pv 0) rfl) (pv 1) pe_bl rfl)
      (pss_one (ps_ret (pv 2))))), ?_⟩
    refine ⟨_, rfl, _, rfl, hd, C, dx, _, _, rfl, hA.ob, T.cl, T.shop, hF_get1, h.sh, CS, S.dx, _, _, rfl, hS.ob, TS.cl, TS.locks, sF_get2, _, rfl, [.ref hd, .ref S.lt, y], [], rfl, rfl, by show 0 ≤ sizeLine; rw [sizeLine_eq]; decide, fun p hp => ?_⟩
    have e1 := same_new (o := .tup []) hp
    refine ⟨hd, dx, p, h, .ref S.lt, y, S.locks, b, [], [], rfl, upd_same, rfl, by show 0 ≤ 1000; decide, hA.same e1, .inr ⟨S.lt, rfl, seqT_same e1 hS.l⟩, hY.same e1, fun i r c h1 h2 => (nomatch h1), (kk _ e1).1, (kk _ e1).2.1, fun nh hb H' e => ⟨fun i r h1 => (nomatch h1), fun good => ?_⟩⟩
    have e2 := e1.trans e
    refine ⟨_, rfl, _, rfl, by show 2 ≤ sizeLine; rw [sizeLine_eq]; decide, fun t ht => ?_⟩
    have e3 := e2.trans (same_new (o := .tup [.str "take", y]) ht)
    obtain ⟨nm, rfl, q1, q2⟩ := (kk _ e3).2.2 nh hb
    have hA3 := hA.same e3
    refine ⟨hd, dx, h, .ref t, rfl, hA3, le, few, fun v hv => ?_, q2 t upd_same⟩
    obtain ⟨c, ec, r1, r2⟩ := q1 v hv
    obtain rfl := (Option.some.inj ec).symm
    have hA4 := hA3.set (h' := { h with asked := h.asked + 1 }) ⟨rfl, rfl, rfl, rfl, rfl, rfl⟩
    exact ⟨_, rfl, hd, C, dx, _, _, rfl, hA4.ob, T.cl, T.mine, hF_get4, _, rfl, h.md, _, rfl, DPut.k (k := Sum.inr nm) hA4.m lm, _, rfl, r1 rfl⟩
theorem sc_reach : FnScope ["self", "lock", "answer"] ["self", "lock"] (defScope s_reach) := ⟨rfl, rfl, rfl, by decide +kernel, rfl, by decide +kernel, by decide +kernel⟩
theorem ok_reach {f : Addr} {fd : FuncData} (F : Fun K "reach" "Hand.reach" s_reach f fd) (T : HTxt K C) (TS : STxt K CS) (Z : Parts P w K mg base C CH CN CV n) : FnOk P w K mg base (L2.CX P w) (n + 5) f fd ["self", "lock"] (spLock K C CS CH CN "reach" truthOf) := by
  obtain ⟨fC, GC, mC, kC⟩ := Z.c
  obtain ⟨fA, fdA, GA, mA, kA, bA⟩ := Z.a
  refine F.okX sc_reach (fun vs H Q E h => ?_) (fun cdv A outer s H vs Q E hr h => ?_)
  · obtain ⟨hd, dx, h, S, y, b, rfl, _⟩ := h
    rfl
  · obtain ⟨hd, dx, h, S, y, b, rfl, hA, hS, le, few, hY, lm, kk⟩ := h
    have hu := hu_of hr
    have hr2 : Room 2 _ := hr.mono (by omega)
    refine ⟨_, pss_cons (ps_expr (pe_callR GC hr kC rfl mC (passes_call (takes_of (E := E) rfl rfl rfl rfl) fun _ _ _ _ z => z) (pa_cons (pv 0) (pa_cons (pe_fld (pe_fld (pv 0) rfl) rfl) (pa_cons (pv 1) pa_nil)))))
      (pss_cons (ps_set (i := 2) sc_reach.nd rfl (.inl rfl) (pe_callS GA hr2 rfl mA kA bA (fun σ => passAt (takes_of (E := E) rfl rfl rfl rfl) σ) (pa_cons (pv 0) (pa_cons (pe_tup (pa_cons pe_str (pa_cons (pv 1) pa_nil))) pa_nil))))
      (pss_cons (ps_if (pt_val (pv 2)) (pss_one (ps_dput hu (pe_fld (pv 0) rfl) (pv 1) pe_bl rfl)) pss_nil)
      (pss_one (ps_ret (pv 2))))), ?_⟩
    refine ⟨_, rfl, _, rfl, hd, C, dx, _, _, rfl, hA.ob, T.cl, T.shop, hF_get1, h.sh, CS, S.dx, _, _, rfl, hS.ob, TS.cl, TS.locks, sF_get2, _, rfl, [.ref hd, .ref S.lt, y], [], rfl, rfl, by show 0 ≤ sizeLine; rw [sizeLine_eq]; decide, fun p hp => ?_⟩
    have e1 := same_new (o := .tup []) hp
    refine ⟨hd, dx, p, h, .ref S.lt, y, S.locks, b, [], [], rfl, upd_same, rfl, by show 0 ≤ 1000; decide, hA.same e1, .inr ⟨S.lt, rfl, seqT_same e1 hS.l⟩, hY.same e1, fun i r c h1 h2 => (nomatch h1), (kk _ e1).1, (kk _ e1).2.1, fun nh hb H' e => ⟨fun i r h1 => (nomatch h1), fun good => ?_⟩⟩
    have e2 := e1.trans e
    refine ⟨_, rfl, _, rfl, by show 2 ≤ sizeLine; rw [sizeLine_eq]; decide, fun t ht => ?_⟩
    have e3 := e2.trans (same_new (o := .tup [.str "reach", y]) ht)
    obtain ⟨nm, rfl, q1, q2⟩ := (kk _ e3).2.2 nh hb
    have hA3 := hA.same e3
    refine ⟨hd, dx, h, .ref t, rfl, hA3, le, few, fun v hv => ?_, q2 t upd_same⟩
    obtain ⟨c, ec, r1, r2⟩ := q1 v hv
    obtain rfl := truthOf_some ec
    have hA4 := hA3.set (h' := { h with asked := h.asked + 1 }) ⟨rfl, rfl, rfl, rfl, rfl, rfl⟩
    refine ⟨_, rfl, _, rfl, ?_⟩
    cases c with
    | true =>
      refine iteT ?_
      exact ⟨_, rfl, hd, C, dx, _, _, rfl, hA4.ob, T.cl, T.mine, hF_get4, _, rfl, h.md, _, rfl, DPut.k (k := Sum.inr nm) hA4.m lm, _, rfl, r1 rfl⟩
    | false =>
      refine iteF ?_
      exact ⟨_, rfl, r2 rfl⟩
end
end TW
namespace TW
open PySem PySem.Spec PyProof.Rows L2
abbrev s_give : Stmt := inClass (top 26) 7
/-- giving a lock back: held, whether the work holds it -/
def spGive (K : PySem.W.Frag) (C CS CH CN CL : Addr) : Sp := fun vs H Q E => ∃ (hd dx : Addr) (h : HS) (S : SS) (y : V) (b : Bool), vs = [.ref hd, y] ∧ HandAt K C H hd dx h ∧ ShopAt K CS H h.sh S ∧ h.asked ≤ h.ans.length ∧ h.ans.length ≤ 1000 ∧ Among K H S.locks y b ∧ h.mine.length < sizeLine ∧
  ∀ H', Same H H' → (h.halted = true → E (.ref CH) none H') ∧ (h.halted = false → b = false → EX E CN "name" y H') ∧
    (h.halted = false → b = true → ∃ nm c, y = .str nm ∧ (valV h.mine (Sum.inr nm)).getD (.bl false) = .bl c ∧ (c = false → EX E CL "lock" y H') ∧ (c = true →
      (∀ v, h.ans[h.asked]? = some v → Q v (upd (upd H' hd (.ins C dx { h with asked := h.asked + 1 }.fs)) h.md (.dK (putK h.mine (Sum.inr nm) (.bl false))))) ∧
      ∀ t, H' t = some (.tup [.str "give", y]) → h.asked = h.ans.length → E (.ref CH) none (upd H' hd (.ins C dx { h with pend := .ref t, halted := true }.fs))))
section
variable {P : Program} {w : World} {K : PySem.W.Frag} {mg : Str → Option Value} {base : Heap} {C CS CH CN CV CL : Addr} {n : Nat}
theorem sc_give : FnScope ["self", "lock", "answer"] ["self", "lock"] (defScope s_give) := ⟨rfl, rfl, rfl, by decide +kernel, rfl, by decide +kernel, by decide +kernel⟩
theorem ok_give {f : Addr} {fd : FuncData} (F : Fun K "give" "Hand.give" s_give f fd) (T : HTxt K C) (TS : STxt K CS) (Z : Parts P w K mg base C CH CN CV n) (ZL : Err1 P w K mg base "NotHeld" "lock" CL) : FnOk P w K mg base (L2.CX P w) (n + 5) f fd ["self", "lock"] (spGive K C CS CH CN CL) := by
  obtain ⟨fC, GC, mC, kC⟩ := Z.c
  obtain ⟨fA, fdA, GA, mA, kA, bA⟩ := Z.a
  obtain ⟨fI, fdI, z, g⟩ := ZL.ex
  refine F.okX sc_give (fun vs H Q E h => ?_) (fun cdv A outer s H vs Q E hr h => ?_)
  · obtain ⟨hd, dx, h, S, y, b, rfl, _⟩ := h
    rfl
  · obtain ⟨hd, dx, h, S, y, b, rfl, hA, hS, le, few, hY, lm, kk⟩ := h
    have hu := hu_of hr
    have hr2 : Room 2 _ := hr.mono (by omega)
    refine ⟨_, pss_cons (ps_expr (pe_callR GC hr kC rfl mC (passes_call (takes_of (E := E) rfl rfl rfl rfl) fun _ _ _ _ z => z) (pa_cons (pv 0) (pa_cons (pe_fld (pe_fld (pv 0) rfl) rfl) (pa_cons (pv 1) pa_nil)))))
      (pss_cons (ps_if (pt_not (pt_val (pe_dget2 hu (pe_fld (pv 0) rfl) (pv 1) pe_bl ⟨rfl, rfl, rfl, rfl⟩))) (pss_one (ps_raise rfl (takes_of (E := E) rfl rfl rfl rfl) (pmk_err z g hr2 ZL.m (pa_cons (pv 1) pa_nil)))) pss_nil)
      (pss_cons (ps_set (i := 2) sc_give.nd rfl (.inl rfl) (pe_callS GA hr2 rfl mA kA bA (fun σ => passAt (takes_of (E := E) rfl rfl rfl rfl) σ) (pa_cons (pv 0) (pa_cons (pe_tup (pa_cons pe_str (pa_cons (pv 1) pa_nil))) pa_nil))))
      (pss_cons (ps_dput hu (pe_fld (pv 0) rfl) (pv 1) pe_bl rfl)
      (pss_one (ps_ret (pv 2)))))), ?_⟩
    refine ⟨_, rfl, _, rfl, hd, C, dx, _, _, rfl, hA.ob, T.cl, T.shop, hF_get1, h.sh, CS, S.dx, _, _, rfl, hS.ob, TS.cl, TS.locks, sF_get2, _, rfl, [.ref hd, .ref S.lt, y], [], rfl, rfl, by show 0 ≤ sizeLine; rw [sizeLine_eq]; decide, fun p hp => ?_⟩
    have e1 := same_new (o := .tup []) hp
    refine ⟨hd, dx, p, h, .ref S.lt, y, S.locks, b, [], [], rfl, upd_same, rfl, by show 0 ≤ 1000; decide, hA.same e1, .inr ⟨S.lt, rfl, seqT_same e1 hS.l⟩, hY.same e1, fun i r c h1 h2 => (nomatch h1), (kk _ e1).1, (kk _ e1).2.1, fun nh hb H' e => ⟨fun i r h1 => (nomatch h1), fun good => ?_⟩⟩
    have e2 := e1.trans e
    have hA2 := hA.same e2
    obtain ⟨nm, c, ey, ec, f1, f2⟩ := (kk _ e2).2.2 nh hb
    subst ey
    refine ⟨_, rfl, hd, C, dx, _, _, rfl, hA2.ob, T.cl, T.mine, hF_get4, h.md, rfl, .inl ⟨_, .inl hA2.m⟩, _, rfl, _, DGet.k (k := Sum.inr nm) hA2.m, c, ec, ?_⟩
    cases c with
    | false => exact iteT ⟨_, rfl, _, rfl, f1 rfl⟩
    | true =>
      refine iteF ?_
      refine ⟨_, rfl, _, rfl, by show 2 ≤ sizeLine; rw [sizeLine_eq]; decide, fun t ht => ?_⟩
      have e3 := e2.trans (same_new (o := .tup [.str "give", .str nm]) ht)
      obtain ⟨nm2, c2, ey2, ec2, _, f3⟩ := (kk _ e3).2.2 nh hb
      obtain rfl := V.str.inj ey2
      obtain rfl : c2 = true := V.bl.inj (ec2.symm.trans ec)
      obtain ⟨q1, q2⟩ := f3 rfl
      have hA3 := hA.same e3
      refine ⟨hd, dx, h, .ref t, rfl, hA3, le, few, fun v hv => ?_, q2 t upd_same⟩
      have hA4 := hA3.set (h' := { h with asked := h.asked + 1 }) ⟨rfl, rfl, rfl, rfl, rfl, rfl⟩
      exact ⟨_, rfl, hd, C, dx, _, _, rfl, hA4.ob, T.cl, T.mine, hF_get4, _, rfl, h.md, _, rfl, DPut.k (k := Sum.inr nm) hA4.m lm, _, rfl, q1 v hv⟩
end
end TW
namespace TW
open PySem PySem.Spec PyProof.Rows L2
abbrev sCkW : Stmt := top 58
abbrev sCkL : Stmt := top 61
abbrev sCopied : Stmt := top 62
def spCkW (K : PySem.W.Frag) (CB : Addr) (fld : Str) : Sp := fun vs H Q E => ∃ (a : Addr) (ws : List V), vs = [.ref a] ∧ SqT K H a ws ∧ ((1 ≤ ws.length ∧ ws.length ≤ 4) → Q .non H) ∧ (¬ (1 ≤ ws.length ∧ ws.length ≤ 4) → EX E CB fld (.int (ws.length : Nat)) H)
def spCkL (K : PySem.W.Frag) (CB : Addr) (fld : Str) : Sp := fun vs H Q E => ∃ (x : V) (t : Int) (b : Bool), vs = [x, .int t] ∧ Whl K H x b ∧ (b = false → EX E CB fld x H) ∧ (b = true → ∃ i : Int, x = .int i ∧ ((1 ≤ i ∧ i ≤ t) → Q .non H) ∧ (¬ (1 ≤ i ∧ i ≤ t) → EX E CB fld x H))
def spCopied : Sp := fun vs H Q _ => (vs = [.non] ∧ ∀ d, H d = none → Q (.ref d) (upd H d (.dK []))) ∨ ∃ a kvs, vs = [.ref a] ∧ Rd H a (.dK kvs) ∧ ∀ d, H d = none → Q (.ref d) (upd H d (.dK kvs))
section
variable {P : Program} {w : World} {K : PySem.W.Frag} {mg : Str → Option Value} {base : Heap} {CB : Addr} {n : Nat} {u : Value}
theorem scCkW : FnScope ["works"] ["works"] (defScope sCkW) := ⟨rfl, rfl, rfl, by decide +kernel, rfl, by decide +kernel, by decide +kernel⟩
theorem ok_ckW {f : Addr} {fd : FuncData} (F : Fun K "check_works" "check_works" sCkW f fd) (B : Blt mg) (mM : mg "MOST_WORKS" = some u) (ru : RelV (.int 4) u) (Z : Err1 P w K mg base "BadWorks" "count" CB) : FnOk P w K mg base (L2.CX P w) 3 f fd ["works"] (spCkW K CB "count") := by
  obtain ⟨fI, fdI, z, g⟩ := Z.ex
  refine F.okX scCkW (fun vs H Q E h => ?_) (fun cdv A outer s H vs Q E hr h => ?_)
  · obtain ⟨a, ws, rfl, _⟩ := h
    rfl
  · obtain ⟨a, ws, rfl, ha, k1, k2⟩ := h
    have hr2 : Room 2 _ := hr.mono (by omega)
    refine ⟨_, pss_one (ps_if (pt_not (pt_chain op_le op_le pe_int (pe_callB call_len_seq (by rfl) B.len PySem.boot_len (pa_cons (pv 0) pa_nil)) (pe_glob (v := .int 4) rfl mM ru))) (pss_one (ps_raise rfl (takes_of (E := E) rfl rfl rfl rfl) (pmk_err z g hr2 Z.m (pa_cons (pe_callB call_len_seq (by rfl) B.len PySem.boot_len (pa_cons (pv 0) pa_nil)) pa_nil)))) pss_nil), ?_⟩
    refine ⟨_, rfl, a, _, rfl, .inr ha, _, _, rfl, rfl, _, rfl, ?_⟩
    by_cases c1 : (1 : Int) ≤ (ws.length : Nat)
    · rw [decide_eq_true c1]
      refine iteT ?_
      refine ⟨_, _, rfl, rfl, _, rfl, ?_⟩
      by_cases c2 : ((ws.length : Nat) : Int) ≤ 4
      · rw [decide_eq_true c2]
        exact iteF (k1 ⟨by omega, by omega⟩)
      · rw [decide_eq_false c2]
        exact iteT ⟨_, rfl, a, _, rfl, .inr ha, _, rfl, k2 (by omega)⟩
    · rw [decide_eq_false c1]
      exact ⟨_, rfl, iteT ⟨_, rfl, a, _, rfl, .inr ha, _, rfl, k2 (by omega)⟩⟩
theorem scCkL : FnScope ["limit", "top"] ["limit", "top"] (defScope sCkL) := ⟨rfl, rfl, rfl, by decide +kernel, rfl, by decide +kernel, by decide +kernel⟩
theorem ok_ckL {f fW : Addr} {fd fdW : FuncData} (F : Fun K "check_limit" "check_limit" sCkL f fd) (G : FnOk P w K mg base CX0 1 fW fdW ["given"] (spWhole K)) (mG : mg "is_whole" = some (.ref fW)) (kG : PySem.W.keepIn K (.ref fW) = true) (bG : Binds K fdW ["given"] []) (Z : Err1 P w K mg base "BadLimit" "limit" CB) : FnOk P w K mg base (L2.CX P w) 3 f fd ["limit", "top"] (spCkL K CB "limit") := by
  obtain ⟨fI, fdI, z, g⟩ := Z.ex
  refine F.okX scCkL (fun vs H Q E h => ?_) (fun cdv A outer s H vs Q E hr h => ?_)
  · obtain ⟨x, t, b, rfl, _⟩ := h
    rfl
  · obtain ⟨x, t, b, rfl, hW, k1, k2⟩ := h
    have hr1 : Room 1 _ := hr.mono (by omega)
    have hr2 : Room 2 _ := hr.mono (by omega)
    refine ⟨_, pss_one (ps_if (PW.pt (pw_or (pt_not (pt_val (pe_call G hr1 rfl mG kG bG .nil pass0 (pa_cons (pv 0) pa_nil)))) (pw_or1 (pt_not (pt_chain op_le op_le pe_int (pv 0) (pv 1))))))
        (pss_one (ps_raise rfl (takes_of (E := E) rfl rfl rfl rfl) (pmk_err z g hr2 Z.m (pa_cons (pv 0) pa_nil)))) pss_nil), ?_⟩
    refine ⟨_, rfl, x, b, rfl, hW, b, rfl, ?_⟩
    cases b with
    | false => exact iteT (iteT ⟨_, rfl, _, rfl, k1 rfl⟩)
    | true =>
      obtain ⟨i, rfl, q1, q2⟩ := k2 rfl
      refine iteF ?_
      refine ⟨_, rfl, _, _, rfl, rfl, _, rfl, ?_⟩
      by_cases c1 : 1 ≤ i
      · rw [decide_eq_true c1]
        refine iteT ?_
        refine ⟨_, rfl, _, _, rfl, rfl, _, rfl, ?_⟩
        by_cases c2 : i ≤ t
        · rw [decide_eq_true c2]
          exact iteF (q1 ⟨c1, c2⟩)
        · rw [decide_eq_false c2]
          exact iteT ⟨_, rfl, _, rfl, q2 (fun z => c2 z.2)⟩
      · rw [decide_eq_false c1]
        exact ⟨_, rfl, iteT ⟨_, rfl, _, rfl, q2 (fun z => c1 z.1)⟩⟩
theorem scCopied : FnScope ["table"] ["table"] (defScope sCopied) := ⟨rfl, rfl, rfl, by decide +kernel, rfl, by decide +kernel, by decide +kernel⟩
theorem ok_copied {f : Addr} {fd : FuncData} (F : Fun K "copied" "copied" sCopied f fd) (B : Blt mg) : FnOk P w K mg base CX0 1 f fd ["table"] spCopied := by
  refine F.ok scCopied (fun vs H Q E h => ?_) (fun cdv A outer s H vs Q E hr h => ?_)
  · rcases h with ⟨rfl, _⟩ | ⟨a, kvs, rfl, _⟩ <;> rfl
  · refine ⟨_, pss_cons (ps_if (pt_cmpR op_isN (pv 0) pe_non (nomark _)) (pss_one (ps_ret pe_dnewK)) pss_nil) (pss_one (ps_ret (pe_callTy call_dictD (by rfl) B.dict (by decide +kernel) (pa_cons (pv 0) pa_nil)))), ?_⟩
    rcases h with ⟨rfl, k⟩ | ⟨a, kvs, rfl, hd, k⟩
    · refine ⟨_, rfl, rfl, _, rfl, ?_⟩
      exact iteT k
    · refine ⟨_, rfl, rfl, _, rfl, ?_⟩
      exact iteF ⟨_, rfl, a, kvs, rfl, hd, k⟩
abbrev sCkS : Stmt := top 60
/-- a belt's size: None, or a number from 1 -/
def spCkS (K : PySem.W.Frag) (CB : Addr) (fld : Str) : Sp := fun vs H Q E => ∃ x : V, vs = [x] ∧ ((x = .non ∧ Q .non H) ∨ (x ≠ .non ∧ ∃ b, Whl K H x b ∧ (b = false → EX E CB fld x H) ∧ (b = true → ∃ i : Int, x = .int i ∧ (1 ≤ i → Q .non H) ∧ (i < 1 → EX E CB fld x H))))
theorem scCkS : FnScope ["size"] ["size"] (defScope sCkS) := ⟨rfl, rfl, rfl, by decide +kernel, rfl, by decide +kernel, by decide +kernel⟩
theorem ok_ckS {f fW : Addr} {fd fdW : FuncData} (F : Fun K "check_size" "check_size" sCkS f fd) (G : FnOk P w K mg base CX0 1 fW fdW ["given"] (spWhole K)) (mG : mg "is_whole" = some (.ref fW)) (kG : PySem.W.keepIn K (.ref fW) = true) (bG : Binds K fdW ["given"] []) (Z : Err1 P w K mg base "BadSize" "size" CB) : FnOk P w K mg base (L2.CX P w) 3 f fd ["size"] (spCkS K CB "size") := by
  obtain ⟨fI, fdI, z, g⟩ := Z.ex
  refine F.okX scCkS (fun vs H Q E h => ?_) (fun cdv A outer s H vs Q E hr h => ?_)
  · obtain ⟨x, rfl, _⟩ := h
    rfl
  · obtain ⟨x, rfl, h⟩ := h
    have hr1 : Room 1 _ := hr.mono (by omega)
    have hr2 : Room 2 _ := hr.mono (by omega)
    refine ⟨_, pss_cons (ps_if (pt_cmpR op_isN (pv 0) pe_non (nomark _)) (pss_one ps_retN) pss_nil)
      (pss_one (ps_if (PW.pt (pw_or (pt_not (pt_val (pe_call G hr1 rfl mG kG bG .nil pass0 (pa_cons (pv 0) pa_nil)))) (pw_or1 (pt_cmpR op_lt (pv 0) pe_int (nomark _)))))
        (pss_one (ps_raise rfl (takes_of (E := E) rfl rfl rfl rfl) (pmk_err z g hr2 Z.m (pa_cons (pv 0) pa_nil)))) pss_nil)), ?_⟩
    rcases h with ⟨rfl, k⟩ | ⟨hx, b, hW, k1, k2⟩
    · refine ⟨_, rfl, rfl, _, rfl, ?_⟩
      exact iteT k
    · refine ⟨_, rfl, rfl, _, rfl, ?_⟩
      rw [decide_eq_false hx]
      refine iteF ?_
      refine ⟨_, rfl, x, b, rfl, hW, b, rfl, ?_⟩
      cases b with
      | false => exact iteT (iteT ⟨_, rfl, _, rfl, k1 rfl⟩)
      | true =>
        obtain ⟨i, rfl, q1, q2⟩ := k2 rfl
        refine iteF ?_
        refine ⟨_, rfl, _, _, rfl, rfl, _, rfl, ?_⟩
        by_cases c : i < 1
        · rw [decide_eq_true c]
          exact iteT ⟨_, rfl, _, rfl, q2 c⟩
        · rw [decide_eq_false c]
          exact iteF (q1 (by omega))
end
end TW
namespace TW
open PySem PySem.Spec PyProof.Rows L2
abbrev sWord : Stmt := top 16
abbrev sNamesD : Stmt := top 59
/-- whether a sign is a small letter -/
def isL (c : Nat) : Bool := !decide (([c] : List Nat) < [97]) && !decide (([122] : List Nat) < [c])
/-- whether a text is a word -/
def isW (z : Str) : Bool := decide (1 ≤ z.length) && (decide (z.length ≤ 8) && z.cps.toList.all isL)
def Wd (K : PySem.W.Frag) (H : Hp) (x : V) (b : Bool) : Prop := (∃ z, x = .str z ∧ z.length ≤ 1000 ∧ b = isW z) ∨ (b = false ∧ ∃ T, TyX K H x (.type T) ∧ kitB T "str" = some false)
def spWord (K : PySem.W.Frag) : Sp := fun vs H Q _ => ∃ (x : V) (b : Bool), vs = [x] ∧ Wd K H x b ∧ ∀ H', Same H H' → Q (.bl b) H'
theorem sign_a : (Str.ofString "a").cps.toList = [97] := by decide +kernel
theorem sign_z : (V.str (Str.ofString "z")) = V.str ⟨#[122]⟩ := by decide +kernel
section
variable {P : Program} {w : World} {K : PySem.W.Frag} {mg : Str → Option Value} {base : Heap} {u : Value}
theorem scWord : FnScope ["given", "letter"] ["given"] (defScope sWord) := ⟨rfl, rfl, rfl, by decide +kernel, rfl, by decide +kernel, by decide +kernel⟩
theorem ok_word {f : Addr} {fd : FuncData} (F : Fun K "is_word" "is_word" sWord f fd) (B : Blt mg) (mL : mg "LONGEST_WORD" = some u) (ru : RelV (.int 8) u) : FnOk P w K mg base CX0 1 f fd ["given"] (spWord K) := by
  refine F.ok scWord (fun vs H Q E h => ?_) (fun cdv A outer s H vs Q E hr h => ?_)
  · obtain ⟨x, b, rfl, _⟩ := h
    rfl
  · obtain ⟨x, b, rfl, hW, kQ⟩ := h
    refine ⟨_, pss_cons (ps_if (PW.pt (pw_or (pt_not (pt_val (pe_callB call_isi (by rfl) B.isi (by decide +kernel) (pa_cons (pv 0) (pa_cons (pe_bltn (v := .ty "str") (by rfl) B.str (by decide +kernel) rfl) pa_nil)))))
          (pw_or1 (pt_not (pt_chain op_le op_le pe_int (pe_callB call_len (by rfl) B.len PySem.boot_len (pa_cons (pv 0) pa_nil)) (pe_glob (v := .int 8) rfl mL ru))))))
        (pss_one (ps_ret pe_bl)) pss_nil)
      (pss_one (ps_ret (pe_callB (cr_all rfl) (by rfl) B.all (by decide +kernel) (pa_cons
        (pe_lc (own := [("letter", 1)]) (g := gName 1) rfl scWord.nd (pi_str (pv 0)) (blkOk_by (N := ["given", "letter"]) (sc := defScope sWord) (by decide +kernel))
          (fun _ _ _ _ _ => pg_name (i := 1) scWord.nd rfl (Or.inl rfl)) (fun _ _ _ _ _ => pts_nil) (fun _ _ _ _ _ => pe_chain op_le_str op_le_str pe_str (pv 1) pe_str)) pa_nil)))), ?_⟩
    rcases hW with ⟨z, rfl, few, rfl⟩ | ⟨rfl, T, ty, e1⟩
    · refine ⟨_, rfl, _, _, _, _, _, rfl, .ty _, .base (.str z), kit_ty (r := true) (by decide +kernel), _, rfl, ?_⟩
      refine iteF ?_
      refine ⟨_, rfl, .str z, z.length, rfl, ⟨Nat.le_trans few (Nat.le_of_lt (small_sz (by decide))), rfl⟩, _, _, rfl, rfl, _, rfl, ?_⟩
      by_cases c1 : (1 : Int) ≤ (z.length : Nat)
      · rw [decide_eq_true c1]
        refine iteT ?_
        refine ⟨_, _, rfl, rfl, _, rfl, ?_⟩
        by_cases c2 : ((z.length : Nat) : Int) ≤ 8
        · rw [decide_eq_true c2]
          refine iteF ?_
          refine ⟨_, rfl, z, rfl, fun D hD => ?_⟩
          refine lc_it walk_str (fun i H' => Same H H' ∧ H' D = some (.lst ((z.cps.toList.take i).map fun c => V.bl (isL c)))) ⟨same_new hD, upd_same⟩ (fun _ _ _ _ => trivial) ?_ ?_
          · rintro i x H' H'' hi ⟨zz, hd⟩ ⟨rfl, c, hc, rfl⟩
            have hc2 : z.cps.toList[i]? = some c := by rw [Array.getElem?_toList]; exact hc
            refine ⟨rfl, ?_⟩
            unfold tYes
            dsimp only
            refine iteT ?_
            have fin : ∀ b, b = isL c → ∃ acc, H'' D = some (.lst acc) ∧ acc.length < sizeLine ∧ (Same H (upd H'' D (.lst (acc ++ [V.bl b]))) ∧ (upd H'' D (.lst (acc ++ [V.bl b]))) D = some (.lst ((z.cps.toList.take (i + 1)).map fun c => V.bl (isL c)))) := by
              rintro b rfl
              refine ⟨_, hd, ?_, fun q o e => ?_, ?_⟩
              · rw [List.length_map, List.length_take]
                have f2 : z.cps.toList.length ≤ 1000 := few
                exact Nat.lt_of_le_of_lt (Nat.min_le_right _ _) (Nat.lt_of_lt_of_le (Nat.lt_succ_of_le f2) (small_sz (n := 1001) (by decide)))
              · rw [upd_ne (ne_of_none e hD)]
                exact zz q o e
              · rw [upd_same, List.take_add_one, hc2, List.map_append]
                rfl
            refine ⟨_, rfl, _, _, rfl, rfl, _, rfl, ?_⟩
            rw [sign_a, sign_z]
            refine ite2 (fun k1 => ?_) (fun k1 => ?_)
            · have i1 : (!decide (([c] : List Nat) < [97])) = true := k1
              refine ⟨_, _, rfl, rfl, ?_⟩
              refine fin _ ?_
              unfold isL
              rw [i1, Bool.true_and]
            · have i1 : (!decide (([c] : List Nat) < [97])) = false := Bool.not_eq_true _ ▸ k1
              refine fin _ ?_
              unfold isL
              rw [i1, Bool.false_and]
          · rintro H' ⟨zz, hd⟩
            rw [show z.cps.toList.take z.cps.size = z.cps.toList from List.take_length] at hd
            refine ⟨D, z.cps.toList.map isL, rfl, SqL.of (by rw [hd, List.map_map]; rfl), ?_⟩
            have e : isW z = (z.cps.toList.map isL).all id := by
              unfold isW
              rw [decide_eq_true (p := 1 ≤ z.length) (by omega), decide_eq_true (p := z.length ≤ 8) (by omega), List.all_map]
              rfl
            rw [e] at kQ
            exact kQ _ zz
        · rw [decide_eq_false c2]
          have e : isW z = false := by
            unfold isW
            rw [decide_eq_false (p := z.length ≤ 8) (by omega)]
            exact Bool.and_false _
          rw [e] at kQ
          exact iteT (kQ _ (Same.refl _))
      · rw [decide_eq_false c1]
        have e : isW z = false := by
          unfold isW
          rw [decide_eq_false (p := 1 ≤ z.length) (by omega)]
          rfl
        rw [e] at kQ
        exact ⟨_, rfl, iteT (kQ _ (Same.refl _))⟩
    · refine ⟨_, rfl, _, _, _, _, _, rfl, .ty _, ty, kit_ty e1, _, rfl, ?_⟩
      exact iteT (iteT (kQ _ (Same.refl _)))
end
end TW
set_option maxHeartbeats 400000
namespace L2
open PySem PySem.Spec PyProof.Rows
section
variable {prog : Program} {w : World} {A : Around} {E : Value → Shared → Prop} {s : Shared} {T : String} {r d : Addr} {n : Nat} {P : Nat → Value → Prop} {OK : Heap → Prop}
/-- what a source of list() gives to a star -/
theorem collect_src {Q : List Value → Shared → Prop} (K : PySem.W.KdlSrc prog w T r d n P OK) (hh : A.handled = none) (hok : OK s.heap) (hn : n ≤ sizeLine)
    (hQ : ∀ h' tk acc', (∀ b o, s.heap.get? b = some o → h'.get? b = some o) → ItemsOf P acc' n → Q acc'.toList { s with heap := h', toks := tk }) : wpAny (model prog w) A (collect (.ref r)) Q E s := by
  unfold collect
  refine wpAny_bind (wpAny_runValue (codeAny_builtin F.entry_proto_collect ?_)); rw [Around.under_plainId F.plain_proto_collect _]
  show wpAny _ A.in1 (newList [] >>= fun l => again (.builtin "list.__iadd__" ⟨[l, .ref r], []⟩)) _ _ s
  refine wpAny_bind (wpAny_newObj_type ?_); refine wpAny_pure ⟨plainId_quiet F.plain_list_iadd _, codeAny_builtin F.entry_list_iadd ?_⟩; rw [Around.under_plainId F.plain_list_iadd _]
  have th := K.there _ hok
  have hS : (s.heap.push { cls := .type "list", data := .seq ([] : List Value).toArray }).get? s.heap.objs.size = some { cls := .type "list", data := .seq #[] 0 } := Heap.get?_push_size _ rfl
  have ok2 := K.keep _ (s.heap.push { cls := .type "list", data := .seq ([] : List Value).toArray }) hok fun b _ o e => Heap.get?_push_of_some _ e
  show wpAny _ A.in1 (Builtin.List.listExtendWith (.ref s.heap.objs.size) (.ref r) (.ref s.heap.objs.size)) _ _ _
  have z := PySem.W.kdl_extend (A := A) (R := fun (f : Result) (s' : Shared) => ∃ h' tk acc' c', f = .ok (.ret (.ref s.heap.objs.size)) ∧ s' = { s with heap := h', toks := tk } ∧ (∀ b o, s.heap.get? b = some o → h'.get? b = some o) ∧ h'.get? s.heap.objs.size = some { cls := .type "list", dict := none, data := .seq acc' c', slots := #[] } ∧ ItemsOf P acc' n)
    (s := { s with heap := s.heap.push { cls := .type "list", data := .seq ([] : List Value).toArray } }) K hh ok2 s.heap.objs.size (Nat.ne_of_gt th.1) (Nat.ne_of_gt th.2) (.ref s.heap.objs.size) 0 hS
    (fun h' tk acc' c' hk hS' hacc => ⟨h', tk, acc', c', rfl, rfl, fun b o e => hk b o (Nat.ne_of_lt (Heap.lt_size e)) (Heap.get?_push_of_some _ e), hS', hacc⟩) hn
  have done : ∀ (f : Result) (s' : Shared), (∃ h' tk acc' c', f = .ok (.ret (.ref s.heap.objs.size)) ∧ s' = { s with heap := h', toks := tk } ∧ (∀ b o, s.heap.get? b = some o → h'.get? b = some o) ∧ h'.get? s.heap.objs.size = some { cls := .type "list", dict := none, data := .seq acc' c', slots := #[] } ∧ ItemsOf P acc' n) →
      (match f with
      | .ok (.ret v) => wpAny (model prog w) A (match v with
          | .ref a => (do match (← load a).data with
            | .seq xs _ => pure xs.toList
            | _ => unsupported "internal:collect")
          | _ => unsupported "internal:collect") Q E s'
      | .ok _ => False
      | .error e => E e s') := by
    rintro f s' ⟨h', tk, acc', c', rfl, rfl, hk, hS', hacc⟩
    exact wpAny_bind (wpAny_load hS' (wpAny_pure (hQ h' tk acc' hk hacc)))
  refine wpAny_mono z (fun fin s' k => ?_) (fun e s' k => done _ s' k)
  cases fin with
  | done f => exact done _ s' k
  | again c' => exact ⟨k.1, codeAny_mono k.2 fun f s'' q => done f s'' q⟩
end
section
variable {X : Cx} {pins : List (Addr × Obj)} {σ : L2.St} {H : Hp} {s : Shared}
theorem star_dK {a : Addr} {kvs : List (Key × V)} {E : Value → Shared → Prop} {Q : List Value → Shared → Prop} (hc : X.calm = true) (I : Inv X pins σ H s) (h : Rd H a (.dK kvs)) (hQ : ∀ us s', Inv X pins σ H s' → Vals (kvs.map fun kv => kV kv.1) us → Q us s') : PySem.W.StarOf (model X.prog X.w) X.A E (.ref a) Q s := by
  obtain ⟨z, lo, vs, rel, dd⟩ := dk_rd I.hok h
  obtain ⟨ep, hat⟩ := dd.dictAt
  have ek : (kvs.map fun kv => kV kv.1) = vs.map fun p => kV p.1 := by
    have e := congrArg (List.map kV) rel.keys
    rw [List.map_map, List.map_map] at e
    exact e
  unfold PySem.W.StarOf notIterableAtAll
  refine wpAny_bind (wpAny_specialOf dd.typeIs PySem.F.slot_dict_iter.lookup (wpAny_pure ⟨rfl, ?_⟩))
  refine collect_src (PySem.W.kdl_dict (knd := mixKind X.prog X.w) (kvs := vs) (ep := ep) lo) (I.ok.hd hc) hat (by rw [← rel.length]; exact z) fun h' tk acc hk hacc => ?_
  refine hQ _ _ (I.kept (t' := tk) hk) ?_
  rw [ek]
  exact keys_at (by rw [Array.length_toList]; exact hacc.1) fun j v e => hacc.2 j v (by rw [← Array.getElem?_toList]; exact e)
/-- *d in a display: a dict's keys -/
def tStarD (te : TE) (t : TA) : TA := fun σ H Q => te σ H fun x H1 => ∃ p kvs, x = V.ref p ∧ Rd H1 p (.dK kvs) ∧ t σ H1 fun ys H2 => Q ((kvs.map fun kv => kV kv.1) ++ ys) H2
theorem pa_starD {e : Expr} {es : List Expr} {te : TE} {t : TA} {p : Pos} (hc : X.calm = true) (he : PE X e te) (hr : PA X es t) (hs : starEach (.Starred e p :: es) X.env = (true, eval e X.env) :: starEach es X.env := by rfl) : PA X (.Starred e p :: es) (tStarD te t) := by
  refine ⟨fun pos pins s σ H Q I h => ?_⟩
  refine PySem.W.items_star (thn (he.run pins s σ H _ I h) fun v s1 ⟨y, H1, I1, ry, a, kvs, ey, hx, q⟩ => ?_) hs
  subst ey
  obtain rfl : v = Value.ref a := ry
  exact star_dK hc I1 hx fun us s2 I2 rv => thn (hr.run pos pins s2 σ H1 _ I2 q) fun ws s3 ⟨vs, H3, I3, r3, q3⟩ => ⟨(kvs.map fun kv => kV kv.1) ++ vs, H3, I3, rv.append r3, q3⟩
end
end L2
namespace TW
open PySem PySem.Spec PyProof.Rows L2
/-- names of things, all words, none twice: nothing comes of checking them -/
def spNamesOk (K : PySem.W.Frag) : Sp := fun vs H Q _ => ∃ (a : Addr) (ns : List Str), vs = [.ref a] ∧ SqL K H a (ns.map V.str) ∧ ns.Nodup ∧ (∀ z ∈ ns, isW z = true) ∧ ns.length ≤ 64 ∧ ∀ H', Same H H' → Q .non H'
theorem isW_few {z : Str} (h : isW z = true) : z.length ≤ 1000 := by
  unfold isW at h
  have h2 := (Bool.and_eq_true_iff.mp (Bool.and_eq_true_iff.mp h).2).1
  have h3 := of_decide_eq_true h2
  omega
section
variable {P : Program} {w : World} {K : PySem.W.Frag} {mg : Str → Option Value} {base : Heap} {u : Value}
theorem scNamesD : FnScope ["names", "stood", "name"] ["names"] (defScope sNamesD) := ⟨rfl, rfl, rfl, by decide +kernel, rfl, by decide +kernel, by decide +kernel⟩
theorem ok_names {f fW : Addr} {fd fdW : FuncData} (F : Fun K "check_names" "check_names" sNamesD f fd) (mS : mg "set" = none) (G : FnOk P w K mg base CX0 1 fW fdW ["given"] (spWord K)) (mW : mg "is_word" = some (.ref fW)) (kW : PySem.W.keepIn K (.ref fW) = true) (bW : Binds K fdW ["given"] []) :
    FnOk P w K mg base CX0 2 f fd ["names"] (spNamesOk K) := by
  refine F.ok scNamesD (fun vs H Q E h => ?_) (fun cdv A outer s H vs Q E hr h => ?_)
  · obtain ⟨a, ns, rfl, _⟩ := h
    rfl
  · obtain ⟨a, ns, rfl, hS, nd, ww, few, k⟩ := h
    refine ⟨_, pss_cons (ps_set (i := 1) scNamesD.nd rfl (.inl rfl) (pe_callTy0 cr_set0K (by rfl) mS (by decide +kernel)))
      (pss_one (ps_for PassesOwn.never rfl (pi_list (pv 0)) (pg_name (i := 2) scNamesD.nd rfl (Or.inl rfl))
        (pss_cons (ps_if (PW.pt (pw_or (pt_not (pt_val (pe_call G hr rfl mW kW bW .nil pass0 (pa_cons (pv 2) pa_nil)))) (pw_or1 (pt_cmpR or_sinK (pv 2) (pv 1) (by rfl))))) (pss_one ps_never) pss_nil)
          (pss_one (ps_expr (pe_saddK (pv 1) (pa_cons (pv 2) pa_nil))))))), ?_⟩
    refine ⟨rfl, fun p hp => ?_⟩
    have s1 : Same H (upd H p (SetK P w p (fun _ => false) 0)) := same_new hp
    refine ⟨_, rfl, a, rfl, ⟨_, s1.seq hS⟩, ?_⟩
    refine for_list (K := K) (a := a) (xs := ns.map V.str) (fun j σ H' => ∃ (q : Option V) (S : Key → Bool), σ = [some (.ref a), some (.ref p), q] ∧ Same H H' ∧ H' p = some (SetK P w p S j) ∧ ∀ z, S (Sum.inr z) = true → z ∈ ns.take j)
      ⟨_, _, rfl, s1, upd_same, fun z e => by cases e⟩ (fun j σ H' _ ⟨_, _, _, z, _⟩ => z.seq hS) ?_ ?_
    · rintro j x σ H4 hx ⟨q, S, rfl, s4, h4, mem⟩
      obtain ⟨z, hz, rfl⟩ : ∃ z, ns[j]? = some z ∧ x = V.str z := by
        rw [List.getElem?_map] at hx
        obtain ⟨z, h1, h2⟩ := Option.map_eq_some_iff.mp hx
        exact ⟨z, h1, h2.symm⟩
      have hj := (List.getElem?_eq_some_iff.mp hz).1
      have zw := ww z (List.mem_of_getElem? hz)
      have no : S (Sum.inr z) = false := by
        cases e : S (Sum.inr z) with
        | false => rfl
        | true =>
          obtain ⟨i, hi, e2⟩ := List.mem_iff_getElem.mp (mem z e)
          rw [List.length_take] at hi
          rw [List.getElem_take] at e2
          have lt : i < j := Nat.lt_of_lt_of_le hi (Nat.min_le_left _ _)
          exact absurd (e2.trans (List.getElem?_eq_some_iff.mp hz).2.symm) (List.pairwise_iff_getElem.mp nd i j (Nat.lt_trans lt hj) hj lt)
      refine ⟨_, rfl, .str z, true, rfl, .inl ⟨z, rfl, isW_few zw, zw.symm⟩, fun H5 s5 => ⟨_, rfl, ?_⟩⟩
      refine iteF ?_
      refine ⟨_, rfl, _, rfl, Sum.inr z, p, S, j, rfl, rfl, s5 _ _ h4, _, rfl, ?_⟩
      rw [show (if false = true then !S (Sum.inr z) else S (Sum.inr z)) = false from no]
      refine iteF ?_
      refine ⟨_, rfl, ⟨p, S, j, rfl, s5 _ _ h4⟩, _, rfl, p, Sum.inr z, S, j, rfl, rfl, s5 _ _ h4, ?_, ?_⟩
      · have lt : j + 1 ≤ 64 := Nat.le_trans hj few
        refine Nat.lt_of_le_of_lt lt ?_
        decide +kernel
      · refine ⟨_, _, rfl, fun b o e => ?_, by rw [upd_same, no]; rfl, fun y e => ?_⟩
        · rw [upd_ne (ne_of_none e hp)]
          exact s5 _ _ (s4 _ _ e)
        · rw [take_one hz]
          rcases Bool.or_eq_true_iff.mp e with e | e
          · exact List.mem_append_left _ (mem y e)
          · have q := Sum.inr.inj (of_decide_eq_true e)
            rw [q]
            exact List.mem_append_right _ (List.mem_singleton.mpr rfl)
    · rintro σ H4 ⟨q, S, rfl, s4, _⟩
      exact k _ s4
end
end TW
namespace L2
open PySem PySem.Spec PyProof.Rows
/-- tuple(x), x a list or a tuple -/
theorem call_tupU {X : Cx} : CallR X (.type "tuple") (fun xs H Q => ∃ (p : Addr) (ys : List V), xs = [.ref p] ∧ (SqL X.K H p ys ∨ SqT X.K H p ys) ∧ ∀ t G, Same H G → SqT X.K G t ys → Q (.ref t) G) := by
  intro pins s σ H xs us Q I r h
  obtain ⟨p, ys, e, h, k⟩ := h
  refine call_tuple_of pins s σ H xs us Q I r ⟨p, ys, e, ?_⟩
  rcases h with h | h
  · exact .inl ⟨h, fun l hl => k l _ (fun b u z => by rw [upd_ne (ne_of_none z hl)]; exact z) (SqT.of upd_same)⟩
  · exact .inr ⟨h, k p _ (Same.refl _) h⟩
theorem fnOk_imp {P : Program} {w : World} {K : PySem.W.Frag} {mg : Str → Option Value} {base : Heap} {CX : CXT} {k : Nat} {f : Addr} {fd : FuncData} {ps : List Str} {sp sp' : Sp} (h : ∀ vs H Q E, sp' vs H Q E → sp vs H Q E) (F : FnOk P w K mg base CX k f fd ps sp) : FnOk P w K mg base CX k f fd ps sp' :=
  ⟨fun vs H Q E z => F.len _ _ _ _ (h _ _ _ _ z), fun A outer s H args us vs Q E hr he hb hv hs => F.run A outer s H args us vs Q E hr he hb hv (h _ _ _ _ hs)⟩
end L2
namespace TW
open PySem PySem.Spec PyProof.Rows L2
def spCopU : Sp := fun vs H Q _ => ∃ (v : V) (kvs : List (Key × V)), vs = [v] ∧ ((v = .non ∧ kvs = []) ∨ ∃ a, v = .ref a ∧ Rd H a (.dK kvs)) ∧ ∀ d, H d = none → Q (.ref d) (upd H d (.dK kvs))
theorem copU (vs : List V) (H : Hp) (Q : VK) (E : XK) (h : spCopU vs H Q E) : spCopied vs H Q E := by
  obtain ⟨v, kvs, rfl, h, k⟩ := h
  rcases h with ⟨rfl, rfl⟩ | ⟨a, rfl, h⟩
  · exact .inl ⟨rfl, k⟩
  · exact .inr ⟨a, kvs, rfl, h, k⟩
abbrev sSI : Stmt := inClass (top 63) 0
/-- a value, whatever comes beside the tuples -/
def VnS (K : PySem.W.Frag) (H : Hp) (n : Nat) (v : V) : Prop := ∀ H', (∀ a xs, SqT K H a xs → SqT K H' a xs) → Vn K H' n v true
/-- a size of a belt -/
def SizeV (v : V) : Prop := v = .non ∨ ∃ i : Int, v = .int i ∧ 1 ≤ i
theorem sqT_but {K : PySem.W.Frag} {H H' : Hp} {d a : Addr} {xs : List V} {o : HO} (hd : H d = some o) (no : ∀ ys, o ≠ .tup ys) (nf : ∀ ob ys, o ≠ .frz ob (.tup ys)) (keep : ∀ b u, b ≠ d → H b = some u → H' b = some u) (h : SqT K H a xs) : SqT K H' a xs := by
  rcases h with (h | ⟨ob, h⟩) | h
  · refine .inl (.inl (keep a _ (fun e => ?_) h))
    subst e
    rw [hd] at h
    exact no xs (Option.some.inj h)
  · refine .inl (.inr ⟨ob, keep a _ (fun e => ?_) h⟩)
    subst e
    rw [hd] at h
    exact nf ob xs (Option.some.inj h)
  · exact .inr h
theorem rd_but {H H' : Hp} {d a : Addr} {kvs : List (Key × V)} {o : HO} (hd : H d = some o) (no : o ≠ .dK kvs) (nf : ∀ ob, o ≠ .frz ob (.dK kvs)) (keep : ∀ b u, b ≠ d → H b = some u → H' b = some u) (h : Rd H a (.dK kvs)) : Rd H' a (.dK kvs) := by
  rcases h with h | ⟨ob, h⟩
  · refine .inl (keep a _ (fun e => ?_) h)
    subst e
    rw [hd] at h
    exact no (Option.some.inj h)
  · refine .inr ⟨ob, keep a _ (fun e => ?_) h⟩
    subst e
    rw [hd] at h
    exact nf ob (Option.some.inj h)
theorem sqL_but {K : PySem.W.Frag} {H H' : Hp} {d a : Addr} {xs : List V} {o : HO} (hd : H d = some o) (no : ∀ ys, o ≠ .lst ys) (nf : ∀ ob ys, o ≠ .frz ob (.lst ys)) (keep : ∀ b u, b ≠ d → H b = some u → H' b = some u) (h : SqL K H a xs) : SqL K H' a xs := by
  rcases h with (h | ⟨ob, h⟩) | h
  · refine .inl (.inl (keep a _ (fun e => ?_) h))
    subst e
    rw [hd] at h
    exact no xs (Option.some.inj h)
  · refine .inl (.inr ⟨ob, keep a _ (fun e => ?_) h⟩)
    subst e
    rw [hd] at h
    exact nf ob xs (Option.some.inj h)
  · exact .inr h
/-- all but the object at d stand -/
def But (d : Addr) (H H' : Hp) : Prop := ∀ b o, b ≠ d → H b = some o → H' b = some o
theorem But.of {H H' : Hp} {d : Addr} (e : Same H H') : But d H H' := fun b o _ h => e b o h
theorem But.trans {H H' H'' : Hp} {d : Addr} (a : But d H H') (b : But d H' H'') : But d H H'' := fun c o n h => b c o n (a c o n h)
theorem But.put {H : Hp} {d : Addr} {o : HO} : But d H (upd H d o) := fun b u n h => by
  rw [upd_ne n]
  exact h
theorem whl_int {K : PySem.W.Frag} {H : Hp} {i : Int} : Whl K H (.int i) true := ⟨"int", true, false, .base (.int i), by decide +kernel, fun _ => by decide +kernel, rfl⟩
def sF4 (v0 v1 v2 v3 : V) : List (Str × V) := [("works", v0), ("cells", v1), ("locks", v2), ("belts", v3)]
theorem sF4_get0 {v0 v1 v2 v3 : V} : (sF4 v0 v1 v2 v3).lookup ("works" : Str) = some v0 := by
  unfold sF4
  rw [lookup_put, if_pos rfl]
theorem sF4_get1 {v0 v1 v2 v3 : V} : (sF4 v0 v1 v2 v3).lookup ("cells" : Str) = some v1 := by
  unfold sF4
  rw [lookup_put, if_neg sF_n1_0, lookup_put, if_pos rfl]
theorem sF4_get2 {v0 v1 v2 v3 : V} : (sF4 v0 v1 v2 v3).lookup ("locks" : Str) = some v2 := by
  unfold sF4
  rw [lookup_put, if_neg sF_n2_0, lookup_put, if_neg sF_n2_1, lookup_put, if_pos rfl]
theorem sF4_get3 {v0 v1 v2 v3 : V} : (sF4 v0 v1 v2 v3).lookup ("belts" : Str) = some v3 := by
  unfold sF4
  rw [lookup_put, if_neg sF_n3_0, lookup_put, if_neg sF_n3_1, lookup_put, if_neg sF_n3_2, lookup_put, if_pos rfl]
/-- what a shop is made of -/
structure SIn where
  ws : List V
  cs : List (Key × V)
  cN : List Str
  lN : List Str
  bs : List (Key × V)
  bN : List Str
  lo : Int
  mo : Int
/-- a shop half made -/
structure Mid (K : PySem.W.Frag) (CS : Addr) (G : Hp) (sh dx wt cd lt bd : Addr) (S : SIn) : Prop where
  ob : G sh = some (.ins CS dx (sF4 (.ref wt) (.ref cd) (.ref lt) (.ref bd)))
  w : SqT K G wt S.ws
  c : G cd = some (.dK S.cs)
  l : SqT K G lt (S.lN.map V.str)
  b : G bd = some (.dK S.bs)
theorem Mid.same {K : PySem.W.Frag} {CS : Addr} {G G' : Hp} {sh dx wt cd lt bd : Addr} {S : SIn} (e : Same G G') (M : Mid K CS G sh dx wt cd lt bd S) : Mid K CS G' sh dx wt cd lt bd S := ⟨e _ _ M.ob, seqT_same e M.w, e _ _ M.c, seqT_same e M.l, e _ _ M.b⟩
/-- what is handed in, rightly -/
structure Good (K : PySem.W.Frag) (H : Hp) (n : Nat) (S : SIn) (wv cv lv bv : V) : Prop where
  w : ∃ a, wv = .ref a ∧ (SqL K H a S.ws ∨ SqT K H a S.ws)
  w1 : 1 ≤ S.ws.length
  w4 : S.ws.length ≤ 4
  c : (cv = .non ∧ S.cs = []) ∨ ∃ a, cv = .ref a ∧ Rd H a (.dK S.cs)
  cn : S.cs.map (·.1) = S.cN.map Sum.inr
  l : ∃ a, lv = .ref a ∧ (SqL K H a (S.lN.map V.str) ∨ SqT K H a (S.lN.map V.str))
  b : (bv = .non ∧ S.bs = []) ∨ ∃ a, bv = .ref a ∧ Rd H a (.dK S.bs)
  bn : S.bs.map (·.1) = S.bN.map Sum.inr
  nd : (S.cN ++ S.lN ++ S.bN).Nodup
  ww : ∀ z ∈ S.cN ++ S.lN ++ S.bN, isW z = true
  few : (S.cN ++ S.lN ++ S.bN).length ≤ 64
  cv : ∀ kv ∈ S.cs, VnS K H n kv.2
  bz : ∀ kv ∈ S.bs, SizeV kv.2
  l1 : 1 ≤ S.lo ∧ S.lo ≤ 40
  l2 : 1 ≤ S.mo ∧ S.mo ≤ 2000
/-- the shop of them -/
def SIn.ss (S : SIn) (dx wt cd lt bd : Addr) : SS := ⟨dx, wt, S.ws, cd, S.cs, S.cN, lt, S.lN, bd, S.bs, S.bN, (S.ws.length : Nat), S.lo, S.mo⟩
/-- a shop is made: its things are copied, what stood stands -/
def spSI (K : PySem.W.Frag) (CS : Addr) (n : Nat) : Sp := fun vs H Q _ => ∃ (sh dx : Addr) (S : SIn) (wv cv lv bv : V), vs = [.ref sh, wv, cv, lv, bv, .int S.lo, .int S.mo] ∧ H sh = some (.ins CS dx []) ∧ Good K H n S wv cv lv bv ∧
  ∀ (wt cd lt bd : Addr) (G : Hp), (∀ b o, b ≠ sh → H b = some o → G b = some o) → ShopAt K CS G sh (S.ss dx wt cd lt bd) → Q .non G
theorem ins_ntup {C dx : Addr} {fs : List (Str × V)} : (∀ ys, HO.ins C dx fs ≠ .tup ys) ∧ ∀ ob ys, HO.ins C dx fs ≠ .frz ob (.tup ys) := ⟨fun _ z => (nomatch z), fun _ _ z => (nomatch z)⟩
theorem dk_ntup {kvs : List (Key × V)} : (∀ ys, HO.dK kvs ≠ .tup ys) ∧ ∀ ob ys, HO.dK kvs ≠ .frz ob (.tup ys) := ⟨fun _ z => (nomatch z), fun _ _ z => (nomatch z)⟩
section
variable {P : Program} {w : World} {K : PySem.W.Frag} {mg : Str → Option Value} {base : Heap} {CS CB1 CB2 CB3 CB4 CB5 : Addr} {n : Nat} {u1 u2 : Value}
theorem scSI : FnScope ["self", "works", "cells", "locks", "belts", "longest", "most", "value", "size"] ["self", "works", "cells", "locks", "belts", "longest", "most"] (defScope sSI) := ⟨rfl, rfl, rfl, by decide +kernel, rfl, by decide +kernel, by decide +kernel⟩
theorem ok_SI {f fC fW fN fV fS fL : Addr} {fd fdC fdW fdN fdV fdS fdL : FuncData} (F : Fun K "__init__" "Shop.__init__" sSI f fd) (B : Blt mg) (X : STxt K CS)
    (GC : FnOk P w K mg base CX0 1 fC fdC ["table"] spCopied) (mC : mg "copied" = some (.ref fC)) (kC : PySem.W.keepIn K (.ref fC) = true) (bC : Binds K fdC ["table"] [])
    (GW : FnOk P w K mg base (L2.CX P w) 3 fW fdW ["works"] (spCkW K CB1 "count")) (mW : mg "check_works" = some (.ref fW)) (kW : PySem.W.keepIn K (.ref fW) = true) (bW : Binds K fdW ["works"] [])
    (GN : FnOk P w K mg base CX0 2 fN fdN ["names"] (spNamesOk K)) (mN : mg "check_names" = some (.ref fN)) (kN : PySem.W.keepIn K (.ref fN) = true) (bN : Binds K fdN ["names"] [])
    (GV : FnOk P w K mg base (L2.CX P w) (n + 3) fV fdV ["given"] (spCkV K CB2 n)) (mV : mg "check_value" = some (.ref fV)) (kV : PySem.W.keepIn K (.ref fV) = true) (bV : Binds K fdV ["given"] [])
    (GS : FnOk P w K mg base (L2.CX P w) 3 fS fdS ["size"] (spCkS K CB3 "size")) (mS : mg "check_size" = some (.ref fS)) (kS : PySem.W.keepIn K (.ref fS) = true) (bS : Binds K fdS ["size"] [])
    (GL : FnOk P w K mg base (L2.CX P w) 3 fL fdL ["limit", "top"] (spCkL K CB4 "limit")) (mL : mg "check_limit" = some (.ref fL)) (kL : PySem.W.keepIn K (.ref fL) = true) (bL : Binds K fdL ["limit", "top"] [])
    (m1 : mg "TOP_LONGEST" = some u1) (r1 : RelV (.int 40) u1) (m2 : mg "TOP_MOST" = some u2) (r2 : RelV (.int 2000) u2) :
    FnOk P w K mg base CX0 (n + 4) f fd ["self", "works", "cells", "locks", "belts", "longest", "most"] (spSI K CS n) := by
  refine F.ok scSI (fun vs H Q E h => ?_) (fun cdv A outer s H vs Q E hr h => ?_)
  · obtain ⟨sh, dx, S, wv, cv, lv, bv, rfl, _⟩ := h
    rfl
  · obtain ⟨sh, dx, S, wv, cv, lv, bv, rfl, ho, Z, k⟩ := h
    have hr1 : Room 1 _ := hr.mono (by omega)
    have hr2 : Room 2 _ := hr.mono (by omega)
    have hr3 : Room 3 _ := hr.mono (by omega)
    have hrV : Room (n + 3) _ := hr.mono (by omega)
    refine ⟨_, pss_cons (ps_fld (pv 0) (pe_callTy call_tupU (by rfl) B.tuple (by decide +kernel) (pa_cons (pv 1) pa_nil)) rfl)
      (pss_cons (ps_fld (pv 0) (pe_call (fnOk_imp copU GC) hr1 rfl mC kC bC .nil pass0 (pa_cons (pv 2) pa_nil)) rfl)
      (pss_cons (ps_fld (pv 0) (pe_callTy call_tupU (by rfl) B.tuple (by decide +kernel) (pa_cons (pv 3) pa_nil)) rfl)
      (pss_cons (ps_fld (pv 0) (pe_call (fnOk_imp copU GC) hr1 rfl mC kC bC .nil pass0 (pa_cons (pv 4) pa_nil)) rfl)
      (pss_cons (ps_expr (pe_call GW hr3 rfl mW kW bW .nil passN (pa_cons (pe_fld (pv 0) rfl) pa_nil)))
      (pss_cons (ps_expr (pe_call GN hr2 rfl mN kN bN .nil pass0 (pa_cons (pe_lst (pa_starD rfl (pe_fld (pv 0) rfl) (StX.pa_star (pe_fld (pv 0) rfl) (pa_starD rfl (pe_fld (pv 0) rfl) pa_nil)))) pa_nil)))
      (pss_cons (ps_lock (ps_for PassesOwn.never rfl (pi_values (pe_fld (pv 0) rfl)) (pg_name (i := 7) scSI.nd rfl (Or.inl rfl)) (pss_one (ps_expr (pe_call GV hrV rfl mV kV bV .nil passN (pa_cons (pv 7) pa_nil))))))
      (pss_cons (ps_lock (ps_for PassesOwn.never rfl (pi_values (pe_fld (pv 0) rfl)) (pg_name (i := 8) scSI.nd rfl (Or.inl rfl)) (pss_one (ps_expr (pe_call GS hr3 rfl mS kS bS .nil passN (pa_cons (pv 8) pa_nil))))))
      (pss_cons (ps_expr (pe_call GL hr3 rfl mL kL bL .nil passN (pa_cons (pv 5) (pa_cons (pe_glob (v := .int 40) rfl m1 r1) pa_nil))))
      (pss_cons (ps_expr (pe_call GL hr3 rfl mL kL bL .nil passN (pa_cons (pv 6) (pa_cons (pe_glob (v := .int 2000) rfl m2 r2) pa_nil))))
      (pss_cons (ps_fld (pv 0) (pe_callB call_len_seq (by rfl) B.len PySem.boot_len (pa_cons (pe_fld (pv 0) rfl) pa_nil)) rfl)
      (pss_cons (ps_fld (pv 0) (pv 5) rfl) (pss_one (ps_fld (pv 0) (pv 6) rfl))))))))))))), ?_⟩
    obtain ⟨wa, rfl, hw⟩ := Z.w
    obtain ⟨la, rfl, hl⟩ := Z.l
    refine ⟨_, rfl, wa, S.ws, rfl, hw, fun wt G1 s1 w1 => ?_⟩
    refine ⟨_, rfl, sh, CS, dx, _, rfl, s1 _ _ ho, X.cl, X.works, (by show 0 < 1000; decide), ?_⟩
    rw [sF_make0]
    have b1 : But sh H (upd G1 sh (.ins CS dx [("works", .ref wt)])) := (But.of s1).trans .put
    have w2 : SqT K (upd G1 sh (.ins CS dx [("works", .ref wt)])) wt S.ws := sqT_but (s1 _ _ ho) ins_ntup.1 ins_ntup.2 But.put w1
    have o2 : (upd G1 sh (.ins CS dx [("works", .ref wt)])) sh = some (.ins CS dx [("works", .ref wt)]) := upd_same
    generalize upd G1 sh (.ins CS dx [("works", .ref wt)]) = A1 at b1 w2 o2 ⊢
    have c2 : (cv = .non ∧ S.cs = []) ∨ ∃ a, cv = .ref a ∧ Rd A1 a (.dK S.cs) := Z.c.imp id fun ⟨a, e, h⟩ => ⟨a, e, rd_but ho (fun z => (nomatch z)) (fun _ z => (nomatch z)) b1 h⟩
    refine ⟨_, rfl, cv, S.cs, rfl, c2, fun cd hcd => ?_⟩
    refine ⟨_, rfl, sh, CS, dx, _, rfl, (same_new hcd) _ _ o2, X.cl, X.cells, (by show 1 < 1000; decide), ?_⟩
    rw [sF_make1]
    have b2 : But sh H (upd (upd A1 cd (.dK S.cs)) sh (.ins CS dx [("works", .ref wt), ("cells", .ref cd)])) := (b1.trans (But.of (same_new hcd))).trans .put
    have w3 : SqT K (upd (upd A1 cd (.dK S.cs)) sh (.ins CS dx [("works", .ref wt), ("cells", .ref cd)])) wt S.ws := sqT_but ((same_new hcd) _ _ o2) ins_ntup.1 ins_ntup.2 But.put (seqT_same (same_new hcd) w2)
    have ne1 : cd ≠ sh := fun e => by
      rw [e, o2] at hcd
      cases hcd
    have c3 : (upd (upd A1 cd (.dK S.cs)) sh (.ins CS dx [("works", .ref wt), ("cells", .ref cd)])) cd = some (.dK S.cs) := by
      rw [upd_ne ne1]
      exact upd_same
    have o3 : (upd (upd A1 cd (.dK S.cs)) sh (.ins CS dx [("works", .ref wt), ("cells", .ref cd)])) sh = some (.ins CS dx [("works", .ref wt), ("cells", .ref cd)]) := upd_same
    generalize upd (upd A1 cd (.dK S.cs)) sh (.ins CS dx [("works", .ref wt), ("cells", .ref cd)]) = A2 at b2 w3 c3 o3 ⊢
    have hl2 : SqL K A2 la (S.lN.map V.str) ∨ SqT K A2 la (S.lN.map V.str) := hl.imp (fun h => sqL_but ho (fun _ z => (nomatch z)) (fun _ _ z => (nomatch z)) b2 h) (fun h => sqT_but ho ins_ntup.1 ins_ntup.2 b2 h)
    refine ⟨_, rfl, la, _, rfl, hl2, fun lt G3 s3 l3 => ?_⟩
    refine ⟨_, rfl, sh, CS, dx, _, rfl, s3 _ _ o3, X.cl, X.locks, (by show 2 < 1000; decide), ?_⟩
    rw [sF_make2]
    have b3 : But sh H (upd G3 sh (.ins CS dx [("works", .ref wt), ("cells", .ref cd), ("locks", .ref lt)])) := (b2.trans (But.of s3)).trans .put
    have w4 : SqT K (upd G3 sh (.ins CS dx [("works", .ref wt), ("cells", .ref cd), ("locks", .ref lt)])) wt S.ws := sqT_but (s3 _ _ o3) ins_ntup.1 ins_ntup.2 But.put (seqT_same s3 w3)
    have l4 : SqT K (upd G3 sh (.ins CS dx [("works", .ref wt), ("cells", .ref cd), ("locks", .ref lt)])) lt (S.lN.map V.str) := sqT_but (s3 _ _ o3) ins_ntup.1 ins_ntup.2 But.put l3
    have c4 : (upd G3 sh (.ins CS dx [("works", .ref wt), ("cells", .ref cd), ("locks", .ref lt)])) cd = some (.dK S.cs) := by
      rw [upd_ne ne1]
      exact s3 _ _ c3
    have o4 : (upd G3 sh (.ins CS dx [("works", .ref wt), ("cells", .ref cd), ("locks", .ref lt)])) sh = some (.ins CS dx [("works", .ref wt), ("cells", .ref cd), ("locks", .ref lt)]) := upd_same
    generalize upd G3 sh (.ins CS dx [("works", .ref wt), ("cells", .ref cd), ("locks", .ref lt)]) = A3 at b3 w4 l4 c4 o4 ⊢
    have c5 : (bv = .non ∧ S.bs = []) ∨ ∃ a, bv = .ref a ∧ Rd A3 a (.dK S.bs) := Z.b.imp id fun ⟨a, e, h⟩ => ⟨a, e, rd_but ho (fun z => (nomatch z)) (fun _ z => (nomatch z)) b3 h⟩
    refine ⟨_, rfl, bv, S.bs, rfl, c5, fun bd hbd => ?_⟩
    refine ⟨_, rfl, sh, CS, dx, _, rfl, (same_new hbd) _ _ o4, X.cl, X.belts, (by show 3 < 1000; decide), ?_⟩
    rw [sF_make3]
    rw [show ([("works", V.ref wt), ("cells", V.ref cd), ("locks", V.ref lt), ("belts", V.ref bd)] : List (Str × V)) = sF4 (.ref wt) (.ref cd) (.ref lt) (.ref bd) from rfl]
    have b4 : But sh H (upd (upd A3 bd (.dK S.bs)) sh (.ins CS dx (sF4 (.ref wt) (.ref cd) (.ref lt) (.ref bd)))) := (b3.trans (But.of (same_new hbd))).trans .put
    have ne2 : bd ≠ sh := fun e => by
      rw [e, o4] at hbd
      cases hbd
    have M : Mid K CS (upd (upd A3 bd (.dK S.bs)) sh (.ins CS dx (sF4 (.ref wt) (.ref cd) (.ref lt) (.ref bd)))) sh dx wt cd lt bd S := by
      have z := same_new (o := .dK S.bs) hbd
      refine ⟨upd_same, sqT_but (z _ _ o4) ins_ntup.1 ins_ntup.2 But.put (seqT_same z w4), ?_, sqT_but (z _ _ o4) ins_ntup.1 ins_ntup.2 But.put (seqT_same z l4), ?_⟩
      · rw [upd_ne ne1]
        exact z _ _ c4
      · rw [upd_ne ne2]
        exact upd_same
    have ne3 : cd ≠ bd := ne_of_none c4 hbd
    generalize upd (upd A3 bd (.dK S.bs)) sh (.ins CS dx (sF4 (.ref wt) (.ref cd) (.ref lt) (.ref bd))) = A4 at b4 M ⊢
    have ks : ∀ {kvs : List (Key × V)} {ns : List Str}, kvs.map (·.1) = ns.map Sum.inr → (kvs.map fun kv => L2.kV kv.1) = ns.map V.str := fun {kvs ns} e => by
      have z := congrArg (List.map L2.kV) e
      rw [List.map_map, List.map_map] at z
      exact z
    refine ⟨_, rfl, sh, CS, dx, _, _, rfl, M.ob, X.cl, X.works, sF4_get0, wt, S.ws, rfl, M.w, fun _ => ?_, fun z => absurd ⟨Z.w1, Z.w4⟩ z⟩
    refine ⟨_, rfl, sh, CS, dx, _, _, rfl, M.ob, X.cl, X.cells, sF4_get1, cd, S.cs, rfl, .inl M.c, _, rfl, sh, CS, dx, _, _, rfl, M.ob, X.cl, X.locks, sF4_get2, lt, _, rfl, .inl M.l, _, rfl, sh, CS, dx, _, _, rfl, M.ob, X.cl, X.belts, sF4_get3, bd, S.bs, rfl, .inl M.b, ?_, fun p hp => ?_⟩
    · have en : ((S.cs.map fun (kv : Key × V) => L2.kV kv.1) ++ (S.lN.map V.str ++ ((S.bs.map fun (kv : Key × V) => L2.kV kv.1) ++ []))).length ≤ 64 := by
        rw [ks Z.cn, ks Z.bn, List.append_nil, List.length_append, List.length_append, List.length_map, List.length_map, List.length_map]
        have z := Z.few
        rw [List.length_append, List.length_append] at z
        omega
      exact Nat.le_trans en (small_sz (n := 64) (by decide))
    have en : (S.cs.map fun (kv : Key × V) => L2.kV kv.1) ++ (S.lN.map V.str ++ ((S.bs.map fun (kv : Key × V) => L2.kV kv.1) ++ [])) = (S.cN ++ S.lN ++ S.bN).map V.str := by
      rw [ks Z.cn, ks Z.bn, List.append_nil, List.map_append, List.map_append, List.append_assoc]
    rw [en]
    refine ⟨p, _, rfl, SqL.of upd_same, Z.nd, Z.ww, Z.few, fun A5 s5 => ?_⟩
    have s6 : Same A4 A5 := (same_new hp).trans s5
    have M5 := M.same s6
    have b5 := b4.trans (But.of s6)
    refine ⟨cd, _, M5.c, trivial, fun od => ?_⟩
    have hsd : ∀ {o : HO}, (upd A5 cd o) sh = some (.ins CS dx (sF4 (.ref wt) (.ref cd) (.ref lt) (.ref bd))) := fun {o} => by
      rw [upd_ne (Ne.symm ne1)]
      exact M5.ob
    refine ⟨_, rfl, sh, CS, dx, _, _, rfl, hsd, X.cl, X.cells, sF4_get1, cd, od, _, rfl, upd_same, ?_⟩
    refine for_it walk_values (fun j σ H' => ∃ q : Option V, σ = [some (.ref sh), some (.ref wa), some cv, some (.ref la), some bv, some (.int S.lo), some (.int S.mo), q, none] ∧ (∀ b o, b ≠ cd → A5 b = some o → H' b = some o) ∧ H' cd = some (.frz od (.dK S.cs)))
      ⟨none, rfl, fun b o ne e => by rw [upd_ne ne]; exact e, upd_same⟩ (fun j σ H' _ ⟨_, _, _, z⟩ => z) ?_ ?_
    · rintro j x σ H6 H7 hj ⟨q, rfl, k6, f6⟩ ⟨rfl, kk, hx⟩
      have vn : Vn K H7 n x true := Z.cv (kk, x) (List.mem_of_getElem? hx) H7 fun a xs h => sqT_but M5.c dk_ntup.1 dk_ntup.2 k6 (sqT_but ho ins_ntup.1 ins_ntup.2 b5 h)
      refine ⟨_, rfl, x, true, rfl, vn, fun H8 s8 => ⟨fun _ => ?_, fun z => (nomatch z)⟩⟩
      exact ⟨_, rfl, fun b o ne e => s8 _ _ (k6 b o ne e), s8 _ _ f6⟩
    · rintro σ H6 ⟨q, rfl, k6, f6⟩
      refine ⟨f6, ?_⟩
      have s7 : Same A5 (upd H6 cd (.dK S.cs)) := fun b o e => by
        by_cases c : b = cd
        · subst c
          rw [M5.c] at e
          rw [upd_same]
          exact e
        · rw [upd_ne c]
          exact k6 b o c e
      have M6 := M5.same s7
      have b6 := b5.trans (But.of s7)
      generalize upd H6 cd (.dK S.cs) = A6 at s7 M6 b6 ⊢
      refine ⟨bd, _, M6.b, trivial, fun od2 => ?_⟩
      have hsd2 : ∀ {o : HO}, (upd A6 bd o) sh = some (.ins CS dx (sF4 (.ref wt) (.ref cd) (.ref lt) (.ref bd))) := fun {o} => by
        rw [upd_ne (Ne.symm ne2)]
        exact M6.ob
      refine ⟨_, rfl, sh, CS, dx, _, _, rfl, hsd2, X.cl, X.belts, sF4_get3, bd, od2, _, rfl, upd_same, ?_⟩
      refine for_it walk_values (fun j σ H' => ∃ r : Option V, σ = [some (.ref sh), some (.ref wa), some cv, some (.ref la), some bv, some (.int S.lo), some (.int S.mo), q, r] ∧ (∀ b o, b ≠ bd → A6 b = some o → H' b = some o) ∧ H' bd = some (.frz od2 (.dK S.bs)))
        ⟨none, rfl, fun b o ne e => by rw [upd_ne ne]; exact e, upd_same⟩ (fun j σ H' _ ⟨_, _, _, z⟩ => z) ?_ ?_
      · rintro j x σ H8 H9 hj ⟨r, rfl, k8, f8⟩ ⟨rfl, kk, hx⟩
        have z := Z.bz (kk, x) (List.mem_of_getElem? hx)
        have nxt : ∃ r : Option V, List.set [some (V.ref sh), some (.ref wa), some cv, some (.ref la), some bv, some (.int S.lo), some (.int S.mo), q, r] 8 (some x) = [some (V.ref sh), some (.ref wa), some cv, some (.ref la), some bv, some (.int S.lo), some (.int S.mo), q, r] ∧ (∀ b o, b ≠ bd → A6 b = some o → H9 b = some o) ∧ H9 bd = some (.frz od2 (.dK S.bs)) := ⟨_, rfl, k8, f8⟩
        refine ⟨_, rfl, x, rfl, ?_⟩
        rcases z with z | ⟨i, z, hi⟩
        · exact .inl ⟨z, nxt⟩
        · refine .inr ⟨fun e => ?_, true, ?_, fun e => (nomatch e), fun _ => ⟨i, z, fun _ => nxt, fun e => absurd hi (by omega)⟩⟩
          · rw [show x = V.int i from z] at e
            cases e
          · rw [show x = V.int i from z]
            exact whl_int
      · rintro σ H8 ⟨r, rfl, k8, f8⟩
        refine ⟨f8, ?_⟩
        have s9 : Same A6 (upd H8 bd (.dK S.bs)) := fun b o e => by
          by_cases c : b = bd
          · subst c
            rw [M6.b] at e
            rw [upd_same]
            exact e
          · rw [upd_ne c]
            exact k8 b o c e
        have M9 := M6.same s9
        have b9 := b6.trans (But.of s9)
        generalize upd H8 bd (.dK S.bs) = A9 at s9 M9 b9 ⊢
        refine ⟨_, rfl, _, 40, true, rfl, whl_int, fun e => (nomatch e), fun _ => ⟨S.lo, rfl, fun _ => ?_, fun e => absurd Z.l1 e⟩⟩
        refine ⟨_, rfl, _, 2000, true, rfl, whl_int, fun e => (nomatch e), fun _ => ⟨S.mo, rfl, fun _ => ?_, fun e => absurd Z.l2 e⟩⟩
        refine ⟨_, rfl, sh, CS, dx, _, _, rfl, M9.ob, X.cl, X.works, sF4_get0, wt, S.ws, rfl, .inr M9.w, ?_⟩
        refine ⟨_, rfl, sh, CS, dx, _, rfl, M9.ob, X.cl, X.many, (by show 4 < 1000; decide), ?_⟩
        rw [show putF "many" (V.int (S.ws.length : Nat)) (sF4 (.ref wt) (.ref cd) (.ref lt) (.ref bd)) = _ from sF_make4]
        refine ⟨_, rfl, _, rfl, sh, CS, dx, _, rfl, upd_same, X.cl, X.longest, (by show 5 < 1000; decide), ?_⟩
        rw [sF_make5, upd_upd]
        refine ⟨_, rfl, _, rfl, sh, CS, dx, _, rfl, upd_same, X.cl, X.most, (by show 6 < 1000; decide), ?_⟩
        rw [sF_make6, upd_upd]
        refine k wt cd lt bd _ (b9.trans .put) ⟨upd_same, sqT_but M9.ob ins_ntup.1 ins_ntup.2 But.put M9.w, ?_, Z.cn, sqT_but M9.ob ins_ntup.1 ins_ntup.2 But.put M9.l, ?_, Z.bn⟩
        · exact (upd_ne ne1).trans M9.c
        · exact (upd_ne ne2).trans M9.b
end
end TW
/-! dicts whose keys are of any kind: None, truths, numbers, texts, tuples. -/
namespace MX
open PySem PySem.Spec PyProof.Rows L2
open Sem (wp)
section
variable {prog : Program} {w : World} {A : Around} {E : Value → Shared → Prop} {s : Shared} {d : Addr} {o : Obj} {es : Array DictEntry} {ep : Nat} {k j : NestedKey} {u : Value}
/-- a key is looked for in a dict of none -/
theorem find_none {h : Int} {Q : Option Nat → Shared → Prop} (ho : s.heap.get? d = some o) (hd : o.data = .dict #[] ep) (hq : Q none s) : wpAny (model prog w) A (dictFind d u h) Q E s := by
  unfold dictFind
  try with_reducible refine wpAny_holding ?_
  refine wpAny_bind (wpAny_dictEntries ho hd ?_)
  cases u <;> exact wpAny_of_eq (show _ = (pure none : Sem (Option Nat)) by with_unfolding_all rfl) hq
theorem walk_one {e : DictEntry} {Q : Option Nat → Shared → Prop} {h : Int} (ho : s.heap.get? d = some o) (hd : o.data = .dict #[e] ep) (c : e.hash = h) (b : Bool) (EQ : ∀ {Q' : Bool → Shared → Prop}, Q' b s → wpAny (model prog w) A (PySem.eqBool e.key u) Q' E s)
    (hq : Q (if b = true then some 0 else none) s) : wpAny (model prog w) A (dictWalkPlain d u h #[e] [0]) Q E s := by
  unfold dictWalkPlain
  rw [List.forIn_cons]
  have e0 : (#[e] : Array DictEntry)[0]? = some e := rfl
  have hh : (e.hash == h) = true := by rw [c]; exact beq_self_eq_true h
  rw [e0]
  dsimp only
  rw [if_pos hh]
  refine wpAny_bind (wpAny_bind (wpAny_bind (wpAny_dictEpoch ho hd (wpAny_bind (EQ (wpAny_bind (wpAny_dictEpoch ho hd ?_)))))))
  refine wpAny_ite_split (fun hab => absurd hab (by simp)) (fun _ => ?_)
  cases b with
  | true =>
    rw [if_pos rfl]
    exact wpAny_bind (wpAny_rule (wpAny_pure (wpAny_pure (wpAny_pure hq))))
  | false =>
    rw [if_neg Bool.false_ne_true]
    exact wpAny_bind (wpAny_rule (wpAny_pure (wpAny_pure (wpAny_pure hq))))
/-- a key is looked for in a dict of one entry -/
theorem find_one {e : DictEntry} {Q : Option Nat → Shared → Prop} (hu : A.units + 8 < cLine) (ho : s.heap.get? d = some o) (hd : o.data = .dict #[e] ep) (kj : NestedIs s.heap j e.key) (eh : e.hash = j.hash w) (kk : NestedIs s.heap k u) (dj : j.depth ≤ 8) (dk : k.depth ≤ 8)
    (hq : Q (if j = k then some 0 else none) s) : wpAny (model prog w) A (dictFind d u (k.hash w)) Q E s := by
  have EQ : ∀ {Q' : Bool → Shared → Prop}, Q' (decide (j = k)) s → wpAny (model prog w) A (PySem.eqBool e.key u) Q' E s := fun {Q'} h => eqAt_key j k A s _ _ kj kk (by omega) _ _ _ _ (by rw [← NestedKey.decide_eq]; exact h)
  have QT : ∀ {Q' : Bool → Shared → Prop}, Q' false s → wpAny (model prog w) A (tableMayTell u [e.key]) Q' E s := fun {Q'} h => by
    unfold tableMayTell
    dsimp only [List.isEmpty]
    rw [if_neg Bool.false_ne_true]
    refine wpAny_bind (quiet_key k u 8 s kk dk A E _ ?_)
    simp only [Bool.not_true, Bool.false_eq_true, if_false]
    rw [List.forIn_cons]
    refine wpAny_bind (wpAny_bind (wpAny_bind (quiet_key j e.key 8 s kj dj A E _ ?_)))
    simp only [Bool.not_true, Bool.false_eq_true, if_false]
    exact wpAny_pure (wpAny_pure (wpAny_pure h))
  have pl : placesWithHash (#[e] : Array DictEntry).size (fun i => (#[e] : Array DictEntry)[i]?.map (·.hash)) (k.hash w) = if e.hash = k.hash w then [0] else [] := by
    unfold placesWithHash
    show (List.range 1).filter _ = _
    by_cases c : e.hash = k.hash w
    · simp [List.range_succ, c]
    · simp [List.range_succ, c]
  unfold dictFind
  try with_reducible refine wpAny_holding ?_
  refine wpAny_bind (wpAny_dictEntries ho hd ?_)
  by_cases c : e.hash = k.hash w
  · rw [if_pos c] at pl
    have hh : (e.hash == k.hash w) = true := by rw [c]; exact beq_self_eq_true _
    have hq' : Q (if decide (j = k) = true then some 0 else none) s := by
      by_cases z : j = k
      · rw [if_pos z] at hq
        rw [if_pos (decide_eq_true z)]
        exact hq
      · rw [if_neg z] at hq
        rw [if_neg (by simp [z])]
        exact hq
    have sv : (List.filterMap (fun i => Option.map (fun x => x.key) (#[e] : Array DictEntry)[i]?) [0]) = [e.key] := rfl
    cases u with
    | str x t =>
      dsimp only
      by_cases ca : ((#[e] : Array DictEntry).all fun e => isExactStrKey e.key) = true
      · rw [if_pos ca]
        unfold foundByValue
        cases z : e.key with
        | str y t2 =>
          have kj2 := kj
          rw [z] at kj2
          cases kj2
          cases kk
          have fi : ((#[e] : Array DictEntry).findIdx? fun q => q.key.isStr x) = if y = x then some 0 else none := by
            have q : e.key.isStr x = decide (y = x) := by rw [z]; rfl
            by_cases yx : y = x
            · simp [Array.findIdx?, Array.findIdx?.loop, q, yx]
            · simp [Array.findIdx?, Array.findIdx?.loop, q, yx]
          rw [fi]
          by_cases yx : y = x
          · rw [if_pos yx]
            have jk : NestedKey.text y = NestedKey.text x := by rw [yx]
            rw [if_pos jk] at hq
            show wpAny _ _ (dictEpoch d _ >>= _) _ _ _
            refine wpAny_bind (wpAny_dictEpoch ho hd (wpAny_bind (EQ (wpAny_bind (wpAny_dictEpoch ho hd ?_)))))
            refine wpAny_ite_split (fun hab => absurd hab (by simp)) (fun _ => ?_)
            refine wpAny_ite_split (fun _ => ?_) (fun hab => absurd (decide_eq_true jk) hab)
            exact wpAny_bind (wpAny_rule (wpAny_pure hq))
          · rw [if_neg yx]
            have jk : ¬ NestedKey.text y = NestedKey.text x := fun z => yx (by cases z; rfl)
            rw [if_neg jk] at hq
            exact wpAny_pure hq
        | _ => exact absurd ca (by rw [← Array.all_toList]; simp [isExactStrKey, z])
      · rw [if_neg ca, pl, sv]
        by_cases cb : (Value.str x t :: [e.key]).all carriedByValue = true
        · rw [if_pos cb]
          exact walk_one ho hd c _ EQ hq'
        · rw [if_neg cb]
          refine wpAny_ite_split (fun hab => ?_) (fun _ => ?_)
          · have z : e.key = Value.str x t := by simpa using hab
            exact absurd (by rw [z]; rfl) cb
          · refine wpAny_bind (QT ?_)
            refine wpAny_ite_split (fun hab => absurd hab (by simp)) (fun _ => ?_)
            refine wpAny_bind ?_
            rw [List.forIn_cons]
            have e0 : (#[e] : Array DictEntry)[0]? = some e := rfl
            rw [e0]
            dsimp only
            rw [if_pos hh]
            refine wpAny_bind (wpAny_bind (wpAny_dictEpoch ho hd (wpAny_bind (EQ (wpAny_bind (wpAny_dictEpoch ho hd ?_))))))
            refine wpAny_ite_split (fun hab => absurd hab (by simp)) (fun _ => ?_)
            by_cases jk : j = k
            · rw [if_pos jk] at hq
              refine wpAny_ite_split (fun _ => ?_) (fun hab => absurd (decide_eq_true jk) hab)
              refine wpAny_ite_split (fun hab => absurd hab (by simp)) (fun _ => ?_)
              refine wpAny_bind (wpAny_rule ?_)
              exact wpAny_pure (wpAny_pure (wpAny_pure hq))
            · rw [if_neg jk] at hq
              refine wpAny_ite_split (fun hab => absurd (of_decide_eq_true hab) jk) (fun _ => ?_)
              refine wpAny_bind (wpAny_rule ?_)
              refine wpAny_ite_split (fun hab => absurd hab (by simp)) (fun _ => ?_)
              exact wpAny_pure (wpAny_pure (wpAny_pure hq))
    | ref a =>
      dsimp only
      rw [pl, sv]
      have nc : ¬ (Value.ref a :: [e.key]).all carriedByValue = true := fun z => Bool.false_ne_true z
      have na : ¬ ((#[e] : Array DictEntry).any fun q => q.key == Value.ref a && q.hash != k.hash w) = true := by
        rw [← Array.any_toList]
        simp [c]
      refine wpAny_ite_split (fun hab => absurd hab nc) (fun _ => wpAny_ite_split (fun hab => absurd hab na) (fun _ => wpAny_ite_split (fun hab => ?_) (fun _ => ?_)))
      · refine wpAny_bind (wpAny_pure ?_)
        refine wpAny_ite_split (fun hab => absurd hab (by simp)) (fun _ => ?_)
        refine wpAny_bind ?_
        rw [List.forIn_cons]
        have e0 : (#[e] : Array DictEntry)[0]? = some e := rfl
        rw [e0]
        dsimp only
        rw [if_pos hh]
        refine wpAny_bind (wpAny_bind (wpAny_dictEpoch ho hd (wpAny_bind (EQ (wpAny_bind (wpAny_dictEpoch ho hd ?_))))))
        refine wpAny_ite_split (fun hab => absurd hab (by simp)) (fun _ => ?_)
        by_cases jk : j = k
        · rw [if_pos jk] at hq
          refine wpAny_ite_split (fun _ => ?_) (fun hab => absurd (decide_eq_true jk) hab)
          refine wpAny_ite_split (fun hab => absurd hab (by simp)) (fun _ => ?_)
          refine wpAny_bind (wpAny_rule ?_)
          exact wpAny_pure (wpAny_pure (wpAny_pure hq))
        · rw [if_neg jk] at hq
          refine wpAny_ite_split (fun hab => absurd (of_decide_eq_true hab) jk) (fun _ => ?_)
          refine wpAny_bind (wpAny_rule ?_)
          refine wpAny_ite_split (fun hab => absurd hab (by simp)) (fun _ => ?_)
          exact wpAny_pure (wpAny_pure (wpAny_pure hq))
      · refine wpAny_bind (QT ?_)
        refine wpAny_ite_split (fun hab => absurd hab (by simp)) (fun _ => ?_)
        refine wpAny_bind ?_
        rw [List.forIn_cons]
        have e0 : (#[e] : Array DictEntry)[0]? = some e := rfl
        rw [e0]
        dsimp only
        rw [if_pos hh]
        refine wpAny_bind (wpAny_bind (wpAny_dictEpoch ho hd (wpAny_bind (EQ (wpAny_bind (wpAny_dictEpoch ho hd ?_))))))
        refine wpAny_ite_split (fun hab => absurd hab (by simp)) (fun _ => ?_)
        by_cases jk : j = k
        · rw [if_pos jk] at hq
          refine wpAny_ite_split (fun _ => ?_) (fun hab => absurd (decide_eq_true jk) hab)
          refine wpAny_ite_split (fun hab => absurd hab (by simp)) (fun _ => ?_)
          refine wpAny_bind (wpAny_rule ?_)
          exact wpAny_pure (wpAny_pure (wpAny_pure hq))
        · rw [if_neg jk] at hq
          refine wpAny_ite_split (fun hab => absurd (of_decide_eq_true hab) jk) (fun _ => ?_)
          refine wpAny_bind (wpAny_rule ?_)
          refine wpAny_ite_split (fun hab => absurd hab (by simp)) (fun _ => ?_)
          exact wpAny_pure (wpAny_pure (wpAny_pure hq))
    | _ =>
      dsimp only
      rw [pl, sv]
      refine wpAny_ite_split (fun cb => walk_one ho hd c _ EQ hq') (fun cb => wpAny_ite_split (fun hab => ?_) (fun _ => ?_))
      · exact absurd (by rw [show e.key = _ by simpa using hab]; rfl) cb
      · refine wpAny_bind (QT ?_)
        refine wpAny_ite_split (fun hab => absurd hab (by simp)) (fun _ => ?_)
        refine wpAny_bind ?_
        rw [List.forIn_cons]
        have e0 : (#[e] : Array DictEntry)[0]? = some e := rfl
        rw [e0]
        dsimp only
        rw [if_pos hh]
        refine wpAny_bind (wpAny_bind (wpAny_dictEpoch ho hd (wpAny_bind (EQ (wpAny_bind (wpAny_dictEpoch ho hd ?_))))))
        refine wpAny_ite_split (fun hab => absurd hab (by simp)) (fun _ => ?_)
        by_cases jk : j = k
        · rw [if_pos jk] at hq
          refine wpAny_ite_split (fun _ => ?_) (fun hab => absurd (decide_eq_true jk) hab)
          refine wpAny_ite_split (fun hab => absurd hab (by simp)) (fun _ => ?_)
          refine wpAny_bind (wpAny_rule ?_)
          exact wpAny_pure (wpAny_pure (wpAny_pure hq))
        · rw [if_neg jk] at hq
          refine wpAny_ite_split (fun hab => absurd (of_decide_eq_true hab) jk) (fun _ => ?_)
          refine wpAny_bind (wpAny_rule ?_)
          refine wpAny_ite_split (fun hab => absurd hab (by simp)) (fun _ => ?_)
          exact wpAny_pure (wpAny_pure (wpAny_pure hq))
  · rw [if_neg c] at pl
    have ne : ¬ j = k := fun z => c (by rw [eh, z])
    rw [if_neg ne] at hq
    cases u with
    | str x t =>
      dsimp only
      by_cases ca : ((#[e] : Array DictEntry).all fun e => isExactStrKey e.key) = true
      · rw [if_pos ca]
        have ni : e.key.isStr x = false := by
          cases z : e.key with
          | str y t2 =>
            rw [z] at kj
            cases kj
            cases kk
            show decide (y = x) = false
            exact decide_eq_false fun q => ne (by rw [q])
          | _ => rfl
        unfold foundByValue
        have fi : ((#[e] : Array DictEntry).findIdx? fun q => q.key.isStr x) = none := by
          simp [Array.findIdx?, Array.findIdx?.loop, ni]
        rw [fi]
        exact wpAny_of_eq (by with_unfolding_all rfl) hq
      · rw [if_neg ca, pl]
        exact wpAny_of_eq (by with_unfolding_all rfl) hq
    | ref a =>
      dsimp only
      rw [pl]
      have na : ¬ ((#[e] : Array DictEntry).any fun q => q.key == Value.ref a && q.hash != k.hash w) = true := by
        rw [← Array.any_toList]
        simp only [List.any_cons, List.any_nil, Bool.or_false, Bool.and_eq_true, beq_iff_eq]
        rintro ⟨z, _⟩
        rw [z] at kj
        exact ne (NestedIs.inj _ _ _ kj kk)
      simp only [List.filterMap_nil]
      have nc : ¬ ([Value.ref a].all carriedByValue) = true := fun z => Bool.false_ne_true z
      refine wpAny_ite_split (fun hab => absurd hab nc) (fun _ => wpAny_ite_split (fun hab => absurd hab na) (fun _ => ?_))
      exact wpAny_of_eq (by with_unfolding_all rfl) hq
    | _ =>
      dsimp only
      rw [pl]
      exact wpAny_of_eq (by with_unfolding_all rfl) hq
end
/-! ### the object -/
/-- an entry: the key as data, as a value; the value -/
structure ME where
  k : NestedKey
  kv : V
  v : V
def EntAt (w : World) (m : ME) (e : DictEntry) : Prop := RelV m.kv e.key ∧ RelV m.v e.val ∧ e.hash = m.k.hash w
/-- a dict with keys of any kind at d -/
def mixO (w : World) (d : Addr) (xs : List ME) : HO := .ext fun h => (d == sysModules) = false ∧ xs.length ≤ 1000 ∧ ∃ o es ep, h.get? d = some o ∧ o.ExactDict ∧ o.data = .dict es ep ∧ Paired (EntAt w) xs es.toList
/-- what a key is -/
inductive KeyV (K : PySem.W.Frag) (H : Hp) : NestedKey → V → Prop where
  | non : KeyV K H .none .non
  | bl (b : Bool) : KeyV K H (.num (if b = true then 1 else 0)) (.bl b)
  | int (i : Int) : KeyV K H (.num i) (.int i)
  | str (x : Str) : KeyV K H (.text x) (.str x)
  | tup {a : Addr} {x : Str} : SqT K H a [.str x] → KeyV K H (.tup [.text x]) (.ref a)
theorem KeyV.depth {K : PySem.W.Frag} {H : Hp} {k : NestedKey} {y : V} (h : KeyV K H k y) : k.depth ≤ 8 := by
  cases h with
  | tup _ => simp [NestedKey.depth, NestedKey.depthAll]
  | _ => exact Nat.zero_le _
section
variable {X : Cx} {pins : List (Addr × Obj)} {σ : L2.St} {H : Hp} {s : Shared} {d : Addr} {xs : List ME}
theorem mixO_ok {P : Program} {w : World} {h : Heap} (lo : (d == sysModules) = false) (few : xs.length ≤ 1000) {o : Obj} {es : Array DictEntry} {ep : Nat} (ho : h.get? d = some o) (hc : o.ExactDict) (hd : o.data = .dict es ep) (r : Paired (EntAt w) xs es.toList) : ObjOk P w H h d (mixO w d xs) :=
  ⟨⟨lo, few, o, es, ep, ho, hc, hd, r⟩, ⟨o, ho⟩, fun h1 h2 ⟨lo, few, o, es, ep, ho, hc, hd, r⟩ kp => ⟨lo, few, o, es, ep, kp o ho, hc, hd, r⟩⟩
theorem key_at {k : NestedKey} {y : V} {u : Value} (I : Inv X pins σ H s) (h : KeyV X.K H k y) (r : RelV y u) : NestedIs s.heap k u := by
  cases h with
  | non =>
    obtain rfl : u = Value.none := r
    exact .none
  | bl b =>
    obtain rfl : u = Value.bool b := r
    exact .bool rfl
  | int i =>
    obtain ⟨t, rfl⟩ : ∃ t, u = Value.int i t := r
    exact .int i t
  | str x =>
    obtain ⟨t, rfl⟩ : ∃ t, u = Value.str x t := r
    exact .text x t
  | @tup a x h =>
    obtain rfl : u = Value.ref a := r
    obtain ⟨its, rv, ⟨o, ho, hc, n, hd⟩, hz⟩ := I.tuple h
    refine .tup ho hc hd ?_
    cases rv with
    | cons r1 r2 =>
      cases r2
      obtain ⟨t, rfl⟩ := r1
      exact .cons (.text x t) .nil
/-- an entry more, or the value of the one that is there -/
def putM (xs : List ME) (k : NestedKey) (y v : V) : List ME := match xs with
  | [m] => if m.k = k then [⟨m.k, m.kv, v⟩] else [m, ⟨k, y, v⟩]
  | _ => [⟨k, y, v⟩]
/-- d[y] = v, d with at most one entry -/
theorem set_mix {k : NestedKey} {y v : V} {u r : Value} {A : Around} {E : Value → Shared → Prop} {Q : Unit → Shared → Prop} (hu : A.units + 10 < cLine) (I : Inv X pins σ H s) (e : H d = some (mixO X.w d xs)) (few : xs.length ≤ 1)
    (hk : ∀ m ∈ xs, KeyV X.K H m.k m.kv) (hy : KeyV X.K H k y) (ry : RelV y u) (rv : RelV v r) (h : ∀ s', Inv X pins σ (upd H d (mixO X.w d (putM xs k y v))) s' → Q () s') : wpAny (model X.prog X.w) A (setItem (.ref d) u r) Q E s := by
  have z0 : ObjOk X.prog X.w H s.heap d (mixO X.w d xs) := I.hok d _ e
  unfold mixO at z0
  obtain ⟨⟨lo, _, o, es, ep, ho, hc, hd, rel⟩, _⟩ := z0
  have hT : s.TypeIs (.ref d) "dict" := ⟨o, ho, hc.1⟩
  have nk : NestedIs s.heap k u := key_at I hy ry
  have mu : Mut (H d) := by rw [e]; exact True.intro
  have de := hy.depth
  unfold setItem
  try with_reducible refine wpAny_holding ?_
  refine wpAny_bind (wpAny_sequenceKey hT (by decide) ?_)
  refine wpAny_bind (wpAny_callSpecial?_slot (name := Str.ofString "__setitem__") hT slot_dict_setitem (wpAny_call_entry slot_dict_setitem hT entry_dict_setitem ?_ (args_dict_setitem _ _ _)))
  show wpAny _ _ (Builtin.Dict.notOrdered "__setitem__" ⟨[.ref d, u, r], []⟩ >>= _) _ _ s
  refine wpAny_bind (wpAny_notOrdered_dict hT ?_)
  show wpAny _ _ (dictSet d u r >>= _) _ _ s
  refine wpAny_bind ?_
  unfold dictSet
  try with_reducible refine wpAny_holding ?_
  refine wpAny_bind (pyHash_key k u _ s _ nk (by simp only [Around.in1_units]; omega) ?_)
  unfold dictSetHashed
  try with_reducible refine wpAny_holding ?_
  have fin : ∀ (xs' : List ME) (h' : Heap) (o' : Obj) (es' : Array DictEntry) (ep' tk : Nat), xs'.length ≤ 1000 → h'.get? d = some o' → o'.ExactDict → o'.data = .dict es' ep' → Paired (EntAt X.w) xs' es'.toList → Heap.SameBut d s.heap h' → Inv X pins σ (upd H d (mixO X.w d xs')) { s with heap := h', toks := tk } :=
    fun xs' h' o' es' ep' tk few' ho' hc' hd' rel' sb => d_write I mu sb ⟨_, ho'⟩ (mixO_ok lo few' ho' hc' hd' rel')
  cases xs with
  | nil =>
    have en : es = #[] := by
      cases es with
      | mk l => cases rel; rfl
    subst en
    refine wpAny_bind (find_none ho hd ?_)
    refine wpAny_bind (wpAny_rule ?_)
    refine wpAny_updateDictKeys (hz := by simp) ho hd ?_
    refine wpAny_pure ⟨.none, rfl, wpAny_pure (h _ ?_)⟩
    exact fin _ _ _ _ (ep + 1) _ (by simp [putM]) (Heap.get?_update_self _ ho (Obj.isFreed_of_dict (Obj.data_mapDictKeys hd _))) (hc.mapDictKeys _) (Obj.data_mapDictKeys hd _) (.cons ⟨ry, rv, rfl⟩ .nil) (Heap.SameBut.update ..)
  | cons m xs => 
    cases xs with
    | cons m2 xs => exact absurd few (by simp)
    | nil =>
    have km := hk m (List.mem_singleton.mpr rfl)
    have dm := km.depth
    obtain ⟨e0, en, r0⟩ : ∃ e0, es = #[e0] ∧ EntAt X.w m e0 := by
      cases es with
      | mk l =>
        cases rel with
        | cons r1 r2 =>
          cases r2
          exact ⟨_, rfl, r1⟩
    subst en
    have nm := key_at I km r0.1
    refine wpAny_bind (find_one (j := m.k) (s := { s with toks := s.toks + k.draws }) (by simp only [Around.in1_units]; omega) ho hd nm r0.2.2 nk dm de ?_)
    unfold putM at h
    dsimp only at h
    by_cases c : m.k = k
    · rw [if_pos c] at h
      rw [if_pos c]
      refine wpAny_bind (wpAny_rule (wpAny_bind (wpAny_updateDict ho hd ?_)))
      refine wpAny_point (wpAny_pure ⟨.none, rfl, wpAny_pure (h _ ?_)⟩)
      exact fin _ _ _ _ ep _ (by simp) (Heap.get?_update_self _ ho (Obj.isFreed_of_dict (Obj.data_mapDict hd _))) (hc.mapDict _) (Obj.data_mapDict hd _) (.cons ⟨r0.1, rv, r0.2.2⟩ .nil) (Heap.SameBut.update ..)
    · rw [if_neg c] at h
      rw [if_neg c]
      refine wpAny_bind (wpAny_rule ?_)
      refine wpAny_updateDictKeys (hz := by rw [sizeLine_eq]; simp) ho hd ?_
      refine wpAny_pure ⟨.none, rfl, wpAny_pure (h _ ?_)⟩
      exact fin _ _ _ _ (ep + 1) _ (by simp) (Heap.get?_update_self _ ho (Obj.isFreed_of_dict (Obj.data_mapDictKeys hd _))) (hc.mapDictKeys _) (Obj.data_mapDictKeys hd _) (.cons r0 (.cons ⟨ry, rv, rfl⟩ .nil)) (Heap.SameBut.update ..)
end
end MX
set_option maxHeartbeats 1000000
namespace MX
open PySem PySem.Spec PyProof.Rows L2
section
variable {prog : Program} {w : World} {A : Around} {E : Value → Shared → Prop} {s : Shared} {d a : Addr}
/-- a dict of one entry, or of none, is merged into one that is empty, or (none) into any -/
theorem merge_few {od oa : Obj} {es : Array DictEntry} {ea : Option DictEntry} {ed ep : Nat} {Q : Unit → Shared → Prop} (da : d ≠ a) (lo : (a == sysModules) = false) (hod : s.heap.get? d = some od) (hdd : od.data = .dict es ed) (hoa : s.heap.get? a = some oa) (hc : oa.ExactDict) (hda : oa.data = .dict ea.toList.toArray ep)
    (hv : ∀ e, ea = some e → es = #[] ∧ carriedByValue e.key = true) (h0 : ea = none → Q () s) (h1 : ∀ e, ea = some e → Q () { s with heap := s.heap.update d (Obj.mapDictKeys (·.push e)) }) : wpAny (model prog w) A (mergeMapping d (.ref a) false) Q E s := by
  have hT : s.TypeIs (.ref a) "dict" := ⟨oa, hoa, hc.1⟩
  unfold mergeMapping
  refine wpAny_bind (wpAny_isInstance hT isSubtype_dict_dict ?_)
  rw [if_pos rfl]
  refine wpAny_bind (wpAny_specialOf hT PySem.F.slot_dict_iter.lookup (wpAny_bind (wpAny_pure ?_)))
  rw [show (some (Value.builtin "dict.__iter__") == some (Value.builtin "dict.__iter__")) = true from beq_self_eq_true _]
  dsimp only
  refine wpAny_ite_split (fun hab => absurd hab (by rw [lo]; exact Bool.false_ne_true)) (fun _ => ?_)
  refine wpAny_bind (wpAny_dictEntries hod hdd ?_)
  cases ea with
  | none =>
    have fin : wpAny (model prog w) A (do
        let l ← dictEntries a
        let size : Nat := l.size
        let epoch ← dictEpoch a
        forIn (List.range size) PUnit.unit fun i __s => do
          let l2 ← dictEntries a
          match l2[i]? with
          | some e => do
            holding [e.key, e.val] (dictPut d e.hash e.key e.val)
            let q ← dictEpoch a
            if (q != epoch) = true then do
              (unsupported "dict.changed-during-merge" : Sem PUnit)
              pure (ForInStep.yield PUnit.unit)
            else pure (ForInStep.yield PUnit.unit)
          | _ => do
            (unsupported "dict.changed-during-merge" : Sem PUnit)
            pure (ForInStep.yield PUnit.unit)
        pure ()) Q E s := by
      refine wpAny_bind (wpAny_dictEntries hoa hda (wpAny_bind (wpAny_dictEpoch hoa hda ?_)))
      exact wpAny_bind (wpAny_pure (wpAny_pure (h0 rfl)))
    refine wpAny_ite_split (fun _ => ?_) (fun _ => fin)
    refine wpAny_bind (wpAny_dictEntries hoa hda (wpAny_bind (wpAny_pure fin)))
  | some e =>
    obtain ⟨rfl, cv⟩ := hv e rfl
    refine wpAny_ite_split (fun _ => ?_) (fun hab => absurd rfl hab)
    refine wpAny_bind (wpAny_dictEntries hoa hda ?_)
    rw [← Array.forIn_toList]
    show wpAny _ _ ((forIn [e] PUnit.unit _ : Sem PUnit) >>= _) _ _ _
    rw [List.forIn_cons]
    have fin : wpAny (model prog w) A (do
        let l ← dictEntries a
        let size : Nat := l.size
        let epoch ← dictEpoch a
        forIn (List.range size) PUnit.unit fun i __s => do
          let l2 ← dictEntries a
          match l2[i]? with
          | some e => do
            holding [e.key, e.val] (dictPut d e.hash e.key e.val)
            let q ← dictEpoch a
            if (q != epoch) = true then do
              (unsupported "dict.changed-during-merge" : Sem PUnit)
              pure (ForInStep.yield PUnit.unit)
            else pure (ForInStep.yield PUnit.unit)
          | _ => do
            (unsupported "dict.changed-during-merge" : Sem PUnit)
            pure (ForInStep.yield PUnit.unit)
        pure ()) Q E s := by
      refine wpAny_bind (wpAny_dictEntries hoa hda (wpAny_bind (wpAny_dictEpoch hoa hda ?_)))
      refine wpAny_bind ?_
      show wpAny _ _ (forIn [0] PUnit.unit _ : Sem PUnit) _ _ _
      rw [List.forIn_cons]
      refine wpAny_bind (wpAny_bind (wpAny_dictEntries hoa hda ?_))
      show wpAny _ _ (holding [e.key, e.val] (dictPut d e.hash e.key e.val) >>= _) _ _ _
      refine wpAny_bind (wpAny_holding ?_)
      unfold dictPut
      refine wpAny_bind (find_none hod hdd ?_)
      refine wpAny_updateDictKeys (hz := by simp) hod hdd ?_
      have hoa2 : (s.heap.update d (Obj.mapDictKeys (·.push e))).get? a = some oa := (Heap.get?_update_other _ _ da).trans hoa
      refine wpAny_bind (wpAny_dictEpoch (s := { s with heap := s.heap.update d (Obj.mapDictKeys (·.push e)) }) hoa2 hda ?_)
      refine wpAny_ite_split (fun hab => absurd hab (by simp)) (fun _ => ?_)
      exact wpAny_pure (wpAny_pure (wpAny_pure (h1 e rfl)))
    cases e with
    | mk hh ky vl =>
      cases ky with
      | ref b => cases cv
      | _ => exact wpAny_bind (wpAny_bind (wpAny_pure (wpAny_pure fin)))
end
end MX
set_option maxHeartbeats 1000000
namespace MX
open PySem PySem.Spec PyProof.Rows L2
section
variable {X : Cx} {pins : List (Addr × Obj)} {σ : L2.St} {H : Hp} {s : Shared} {p b : Addr}
theorem d_merge {ka kb : List (Key × V)} {A : Around} {E : Value → Shared → Prop} {Q : Unit → Shared → Prop} (I : Inv X pins σ H s) (hp : H p = some (.dK ka)) (hb : Rd H b (.dK kb)) (ne : b ≠ p) (few : kb.length ≤ 1) (oo : ka = [] ∨ kb = [])
    (h : ∀ s', Inv X pins σ (upd H p (.dK (ka ++ kb))) s' → Q () s') : wpAny (model X.prog X.w) A (mergeMapping p (.ref b) false) Q E s := by
  obtain ⟨z, lo, vs, rel, dd⟩ := dk_rd I.hok hb
  obtain ⟨zp, lop, vp, relp, ddp⟩ := dk_of I.hok hp
  obtain ⟨oa, ea, epa, hoa, hca, hda, hka, hpa, hna⟩ := id dd
  obtain ⟨od, es, ed, hod, hcd, hdd, hkd, hpd, hnd⟩ := id ddp
  cases kb with
  | nil =>
    cases rel
    have e0 : ea = (none : Option DictEntry).toList.toArray := by
      cases ea with
      | mk l =>
        have q := hpa.length
        cases l with
        | nil => rfl
        | cons e r => simp at q
    rw [e0] at hda
    refine merge_few (ea := none) (Ne.symm ne) lo hod hdd hoa hca hda (fun e z => (nomatch z)) (fun _ => h s ?_) fun e z => (nomatch z)
    rw [List.append_nil]
    have z : upd H p (.dK ka) = H := by
      funext c
      by_cases e : c = p
      · rw [e, upd_same, hp]
      · rw [upd_ne e]
    rw [z]
    exact I
  | cons kv r =>
    have er : r = [] := by
      cases r with
      | nil => rfl
      | cons _ _ => simp at few
    subst er
    have ek : ka = [] := by
      rcases oo with q | q
      · exact q
      · cases q
    subst ek
    cases relp
    have e1 : es = #[] := by
      cases es with
      | mk l =>
        have q := hpd.length
        cases l with
        | nil => rfl
        | cons e r => simp at q
    subst e1
    cases rel with
    | @cons _ kw _ _ r1 r2 =>
      cases r2
      obtain ⟨e, e2⟩ : ∃ e, ea = (some e : Option DictEntry).toList.toArray := by
        cases ea with
        | mk l =>
          have q := hpa.length
          cases l with
          | nil => simp at q
          | cons e r =>
            cases r with
            | nil => exact ⟨e, rfl⟩
            | cons e' r' => simp at q
      subst e2
      obtain ⟨k2, i1, i2⟩ := hka e (by simp)
      refine merge_few (ea := some e) (Ne.symm ne) lo hod hdd hoa hca hda (fun e' z => ?_) (fun z => (nomatch z)) fun e' z => h _ ?_
      · cases z
        exact ⟨rfl, (mixKind X.prog X.w).byValue k2 _ i1⟩
      · cases z
        refine d_write (t' := s.toks) I (by rw [hp]; exact True.intro) (Heap.SameBut.update ..) ⟨_, Heap.get?_update_self _ hod (Obj.isFreed_of_dict (Obj.data_mapDictKeys hdd _))⟩ (dk_new (vs := [kw]) (by simp; rw [sizeLine_eq]; decide) lop (.cons r1 .nil) ?_)
        exact ⟨_, _, _, Heap.get?_update_self _ hod (Obj.isFreed_of_dict (Obj.data_mapDictKeys hdd _)), hcd.mapDictKeys _, Obj.data_mapDictKeys hdd _, hka, hpa, hna⟩
end
end MX
set_option maxHeartbeats 1000000
namespace MX
open PySem PySem.Spec PyProof.Rows L2
/-- {**a, **b}: one of them at least without entries -/
def tDS (t1 t2 : TE) : TE := fun σ H Q => ∀ p, H p = none → t1 σ (upd H p (.dK [])) fun x H1 => ∃ a ka, x = .ref a ∧ Rd H1 a (.dK ka) ∧ a ≠ p ∧ H1 p = some (.dK []) ∧ ka.length ≤ 1 ∧
  t2 σ (upd H1 p (.dK ka)) fun y H2 => ∃ b kb, y = .ref b ∧ Rd H2 b (.dK kb) ∧ b ≠ p ∧ H2 p = some (.dK ka) ∧ kb.length ≤ 1 ∧ (ka = [] ∨ kb = []) ∧ Q (.ref p) (upd H2 p (.dK (ka ++ kb)))
section
variable {α : Type} {M : Model} {A : Around} {E : Value → Shared → Prop} {s : Shared} {m : Sem α} {Q : α → Shared → Prop}
theorem any_onRaise {f : Value → Sem Unit} (h : wpAny M A m Q (fun _ _ => False) s) : wpAny M A (m.onRaise f) Q E s := fun Γ p hΓ => by
  rw [Sem.wp_onRaise]
  exact Sem.wp_mono M Γ m (fun _ _ _ x => x) (fun _ _ _ x => x.elim) p s (h Γ p hΓ)
theorem any_try {f : Value → Sem α} (h : wpAny M A m Q (fun _ _ => False) s) : wpAny M A (m.tryCatch f) Q E s := fun Γ p hΓ => by
  rw [Sem.wp_tryCatch]
  exact Sem.wp_mono M Γ m (fun _ _ _ x => x) (fun _ _ _ x => x.elim) p s (h Γ p hΓ)
end
section
variable {X : Cx} {e1 e2 : Expr} {t1 t2 : TE} {pos : Pos}
theorem pe_dstar2 (h1 : PE X e1 t1) (h2 : PE X e2 t2) : PE X (.Dict [none, none] [e1, e2] pos) (tDS t1 t2) := by
  refine ⟨fun pins s σ H Q I h => ?_⟩
  rw [arm_eval_Dict]
  refine wpAny_bind (wpAny_standAt ?_)
  have ez : (evalEachOpt [none, none] X.env).zip ((evalEach [e1, e2] X.env).map fun v => do let x ← v; standAt pos; pure x) = [((none : Option (Sem Value)), (do let x ← eval e1 X.env; standAt pos; pure x)), (none, (do let x ← eval e2 X.env; standAt pos; pure x))] := rfl
  rw [ez]
  unfold dictDisplay
  dsimp only
  refine wpAny_bind ?_
  rw [List.forIn_cons]
  have hf : H s.heap.objs.size = none := I.hok.fresh (Nat.le_refl _)
  have I1 := I.laid (a := s.heap.objs.size) (o := .dK []) (h' := s.heap.push { cls := .type "dict", data := .dict #[] }) (t' := s.toks) (fun _ _ q => Heap.get?_push_of_some _ q) (Nat.le_refl _) (dk_empty s.heap I.big)
  refine wpAny_bind (wpAny_bind (wpAny_pure (wpAny_bind (wpAny_alloc ?_))))
  refine wpAny_bind (wpAny_holding ?_)
  refine wpAny_bind (thn (h1.run pins _ σ _ _ I1 (h _ hf)) fun u1 s1 ⟨x, H1, J1, rx, a, ka, ex, ra, na, p1, f1, q1⟩ => ?_)
  subst ex
  obtain rfl : u1 = Value.ref a := rx
  refine wpAny_bind (wpAny_standAt (wpAny_pure ?_))
  refine wpAny_bind (any_onRaise (any_try (any_onRaise (wpAny_holding (d_merge J1 p1 ra na f1 (.inl rfl) fun s2 J2 => ?_)))))
  refine wpAny_pure ?_
  dsimp only
  rw [List.forIn_cons]
  refine wpAny_bind (wpAny_bind (wpAny_pure (wpAny_bind (wpAny_pure ?_))))
  refine wpAny_bind (wpAny_holding ?_)
  refine wpAny_bind (thn (h2.run pins s2 σ _ _ J2 q1) fun u2 s3 ⟨y, H2, J3, ry, b, kb, ey, rb, nb, p2, f2, oo, q2⟩ => ?_)
  subst ey
  obtain rfl : u2 = Value.ref b := ry
  refine wpAny_bind (wpAny_standAt (wpAny_pure ?_))
  refine wpAny_bind (any_onRaise (any_try (any_onRaise (wpAny_holding (d_merge J3 p2 rb nb f2 oo fun s4 J4 => ?_)))))
  refine wpAny_pure ?_
  dsimp only
  refine wpAny_pure ?_
  dsimp only
  refine wpAny_bind (wpAny_pure ?_)
  exact wpAny_pure ⟨V.ref s.heap.objs.size, _, J4, rfl, q2⟩
end
end MX
namespace TW
open PySem PySem.Spec PyProof.Rows L2
abbrev s_names : Stmt := inClass (top 63) 1
abbrev s_beside : Stmt := inClass (top 63) 2
def spNamesOf (K : PySem.W.Frag) (CS : Addr) : Sp := fun vs H Q _ => ∃ (sh : Addr) (S : SS), vs = [.ref sh] ∧ ShopAt K CS H sh S ∧ (S.cellN ++ S.locks ++ S.beltN).length < 60 ∧
  ∀ (p : Addr) (ns : List Str) (G : Hp), ns.Perm (S.cellN ++ S.locks ++ S.beltN) → Same H G → G p = some (.lst (ns.map V.str)) → Q (.ref p) G
section
variable {P : Program} {w : World} {K : PySem.W.Frag} {mg : Str → Option Value} {base : Heap} {CS : Addr} {n : Nat}
theorem sc_names : FnScope ["self"] ["self"] (defScope s_names) := ⟨rfl, rfl, rfl, by decide +kernel, rfl, by decide +kernel, by decide +kernel⟩
theorem names_key {kvs : List (Key × V)} {ns : List Str} (e : kvs.map (·.1) = ns.map Sum.inr) : (kvs.map fun (kv : Key × V) => L2.kV kv.1) = ns.map V.str := by
  have z := congrArg (List.map L2.kV) e
  rw [List.map_map, List.map_map] at z
  exact z
theorem ok_namesOf {f : Addr} {fd : FuncData} (F : Fun K "names" "Shop.names" s_names f fd) (B : Blt mg) (X : STxt K CS) : FnOk P w K mg base CX0 1 f fd ["self"] (spNamesOf K CS) := by
  refine F.ok sc_names (fun vs H Q E h => ?_) (fun cdv A outer s H vs Q E hr h => ?_)
  · obtain ⟨sh, S, rfl, _⟩ := h
    rfl
  · obtain ⟨sh, S, rfl, hS, few, k⟩ := h
    refine ⟨_, pss_one (ps_ret (pe_callB cr_sortedS (by rfl) B.sorted (by decide +kernel) (pa_cons (pe_lst (pa_starD rfl (pe_fld (pv 0) rfl) (StX.pa_star (pe_fld (pv 0) rfl) (pa_starD rfl (pe_fld (pv 0) rfl) pa_nil)))) pa_nil))), ?_⟩
    have en : (S.cells.map fun (kv : Key × V) => L2.kV kv.1) ++ (S.locks.map V.str ++ ((S.belts.map fun (kv : Key × V) => L2.kV kv.1) ++ [])) = (S.cellN ++ S.locks ++ S.beltN).map V.str := by
      rw [names_key hS.cn, names_key hS.bn, List.append_nil, List.map_append, List.map_append, List.append_assoc]
    refine ⟨_, rfl, sh, CS, S.dx, _, _, rfl, hS.ob, X.cl, X.cells, sF_get1, S.cd, S.cells, rfl, .inl hS.c, _, rfl, sh, CS, S.dx, _, _, rfl, hS.ob, X.cl, X.locks, sF_get2, S.lt, _, rfl, .inl hS.l, _, rfl, sh, CS, S.dx, _, _, rfl, hS.ob, X.cl, X.belts, sF_get3, S.bd, S.belts, rfl, .inl hS.b, ?_, fun p hp => ?_⟩
    · rw [en, List.length_map]
      exact Nat.le_trans (Nat.le_of_lt few) (small_sz (n := 60) (by decide))
    rw [en]
    refine ⟨p, S.cellN ++ S.locks ++ S.beltN, rfl, SqL.of upd_same, by omega, fun ys q perm srt new => ?_⟩
    exact k q ys _ perm ((same_new hp).trans (same_new new)) upd_same
end
end TW
namespace L2
open PySem PySem.Spec PyProof.Rows
/-- t + u, any tuples: what holds its items -/
theorem op_catU {X : Cx} : OpR X (binaryOp .Add) (fun x y H Q => ∃ a b xs ys, x = .ref a ∧ y = .ref b ∧ SqT X.K H a xs ∧ SqT X.K H b ys ∧ xs.length + ys.length ≤ sizeLine ∧ ∀ t G, Same H G → SqT X.K G t (xs ++ ys) → Q (.ref t) G) := by
  intro pins s σ H x y v u Q I rx ry h
  obtain ⟨a, b, xs, ys, ex, ey, ha, hb, hz, k⟩ := h
  refine op_catT2 pins s σ H x y v u Q I rx ry ⟨a, b, xs, ys, ex, ey, ha, hb, hz, fun e => ?_, fun _ e => ?_, fun _ _ p hp => ?_⟩
  · exact k b H (Same.refl _) (by rw [e]; exact hb)
  · exact k a H (Same.refl _) (by rw [e, List.append_nil]; exact ha)
  · exact k p _ (fun c u z => by rw [upd_ne (ne_of_none z hp)]; exact z) (SqT.of upd_same)
end L2
namespace TW
open PySem PySem.Spec PyProof.Rows L2
/-- what two shops make together -/
def SS.both (S1 S2 : SS) (lo mo : Int) : SIn := ⟨S1.works ++ S2.works, S1.cells ++ S2.cells, S1.cellN ++ S2.cellN, S1.locks ++ S2.locks, S1.belts ++ S2.belts, S1.beltN ++ S2.beltN, lo, mo⟩
def spBeside (K : PySem.W.Frag) (CS : Addr) (n : Nat) : Sp := fun vs H Q _ => ∃ (o1 o2 : Addr) (S1 S2 : SS) (lo mo : Int), vs = [.ref o1, .ref o2, .int lo, .int mo] ∧ ShopAt K CS H o1 S1 ∧ ShopAt K CS H o2 S2 ∧ S1.cells.length ≤ 1 ∧ S2.cells.length ≤ 1 ∧ S1.belts.length ≤ 1 ∧ S2.belts.length ≤ 1 ∧
  (S1.cells = [] ∨ S2.cells = []) ∧ (S1.belts = [] ∨ S2.belts = []) ∧ 1 ≤ (S1.works ++ S2.works).length ∧ (S1.works ++ S2.works).length ≤ 4 ∧ ((S1.both S2 lo mo).cN ++ (S1.both S2 lo mo).lN ++ (S1.both S2 lo mo).bN).Nodup ∧ (∀ z ∈ (S1.both S2 lo mo).cN ++ (S1.both S2 lo mo).lN ++ (S1.both S2 lo mo).bN, isW z = true) ∧
  ((S1.both S2 lo mo).cN ++ (S1.both S2 lo mo).lN ++ (S1.both S2 lo mo).bN).length < 60 ∧ (∀ kv ∈ (S1.both S2 lo mo).cs, VnS K H n kv.2) ∧ (∀ kv ∈ (S1.both S2 lo mo).bs, SizeV kv.2) ∧ (1 ≤ lo ∧ lo ≤ 40) ∧ (1 ≤ mo ∧ mo ≤ 2000) ∧
  ∀ (sh dx wt cd lt bd : Addr) (G : Hp), H sh = none → Same H G → ShopAt K CS G sh ((S1.both S2 lo mo).ss dx wt cd lt bd) → Q (.ref sh) G
section
variable {P : Program} {w : World} {K : PySem.W.Frag} {mg : Str → Option Value} {base : Heap} {CS CB1 : Addr} {n : Nat}
theorem sc_beside : FnScope ["self", "other", "longest", "most", "works", "others", "name"] ["self", "other", "longest", "most"] (defScope s_beside) := ⟨rfl, rfl, rfl, by decide +kernel, rfl, by decide +kernel, by decide +kernel⟩
theorem ok_beside {f fW fN fI : Addr} {fd fdW fdN fdI : FuncData} (F : Fun K "beside" "Shop.beside" s_beside f fd) (B : Blt mg) (X : STxt K CS) (M : Mk K CS fI)
    (GW : FnOk P w K mg base (L2.CX P w) 3 fW fdW ["works"] (spCkW K CB1 "count")) (mW : mg "check_works" = some (.ref fW)) (kW : PySem.W.keepIn K (.ref fW) = true) (bW : Binds K fdW ["works"] [])
    (GN : FnOk P w K mg base CX0 1 fN fdN ["self"] (spNamesOf K CS)) (hN : Meth K CS "names" fN) (bN : Binds K fdN ["self"] [])
    (GI : FnOk P w K mg base CX0 (n + 4) fI fdI ["self", "works", "cells", "locks", "belts", "longest", "most"] (spSI K CS n)) (mS : mg "Shop" = some (.ref CS))
    (hb : KBn K fdI ["self", "works", "cells", "locks", "belts", "longest", "most"] 2 ["cells", "locks", "belts", "longest", "most"] (fun us ws => us ++ ws) (fun vs zs => vs ++ zs)) :
    FnOk P w K mg base CX0 (n + 6) f fd ["self", "other", "longest", "most"] (spBeside K CS n) := by
  refine F.ok sc_beside (fun vs H Q E h => ?_) (fun cdv A outer s H vs Q E hr h => ?_)
  · obtain ⟨o1, o2, S1, S2, lo, mo, rfl, _⟩ := h
    rfl
  · obtain ⟨o1, o2, S1, S2, lo, mo, rfl, A1, A2, c1, c2, b1, b2, co, bo, w1, w4, nd, ww, few, cv, bz, l1, l2, k⟩ := h
    have hr1 : Room 1 _ := hr.mono (by omega)
    have hr3 : Room 3 _ := hr.mono (by omega)
    refine ⟨_, pss_cons (ps_set (i := 4) sc_beside.nd rfl (.inl rfl) (pe_op op_catU (pe_fld (pv 0) rfl) (pe_fld (pv 1) rfl)))
      (pss_cons (ps_expr (pe_call GW hr3 rfl mW kW bW .nil passN (pa_cons (pv 4) pa_nil)))
      (pss_cons (ps_set (i := 5) sc_beside.nd rfl (.inl rfl) (pe_meth0 (pv 1) X.cl hN GN hr1 bN .nil pass0))
      (pss_cons (ps_for PassesOwn.never rfl (pi_list (pe_meth0 (pv 0) X.cl hN GN hr1 bN .nil pass0)) (pg_name (i := 6) sc_beside.nd rfl (Or.inl rfl))
          (pss_one (ps_if (pt_cmpR op_in_seq (pv 6) (pv 5) (by rfl)) (pss_one ps_never) pss_nil)))
      (pss_one (ps_ret (pe_makeK (n := 1) M GI hr rfl mS hb pass0 (pa_cons (pv 4) pa_nil)
        (pk_cons (MX.pe_dstar2 (pe_fld (pv 0) rfl) (pe_fld (pv 1) rfl)) (pk_cons (pe_op op_catU (pe_fld (pv 0) rfl) (pe_fld (pv 1) rfl)) (pk_cons (MX.pe_dstar2 (pe_fld (pv 0) rfl) (pe_fld (pv 1) rfl)) (pk_cons (pv 2) (pk_cons (pv 3) pk_nil))))))))))), ?_⟩
    have wsz : S1.works.length + S2.works.length ≤ sizeLine := by
      rw [List.length_append] at w4
      exact Nat.le_trans w4 (small_sz (n := 4) (by decide))
    have nno : ∀ (S : SS), (sF (.ref S.wt) (.ref S.cd) (.ref S.lt) (.ref S.bd) (.int S.many) (.int S.longest) (.int S.most)).lookup ("names" : Str) = none := fun S => sF_no (by decide +kernel) (by decide +kernel) (by decide +kernel) (by decide +kernel) (by decide +kernel) (by decide +kernel) (by decide +kernel)
    have few1 : (S1.cellN ++ S1.locks ++ S1.beltN).length < 60 := by
      have z : ((S1.cellN ++ S2.cellN) ++ (S1.locks ++ S2.locks) ++ (S1.beltN ++ S2.beltN)).length < 60 := few
      simp only [List.length_append] at z ⊢
      omega
    have few2 : (S2.cellN ++ S2.locks ++ S2.beltN).length < 60 := by
      have z : ((S1.cellN ++ S2.cellN) ++ (S1.locks ++ S2.locks) ++ (S1.beltN ++ S2.beltN)).length < 60 := few
      simp only [List.length_append] at z ⊢
      omega
    refine ⟨_, rfl, o1, CS, S1.dx, _, _, rfl, A1.ob, X.cl, X.works, sF_get0, _, rfl, o2, CS, S2.dx, _, _, rfl, A2.ob, X.cl, X.works, sF_get0, S1.wt, S2.wt, S1.works, S2.works, rfl, rfl, A1.w, A2.w, wsz, fun wt G1 s1 wq => ?_⟩
    refine ⟨_, rfl, wt, _, rfl, wq, fun _ => ?_, fun z => absurd ⟨w1, w4⟩ z⟩
    refine ⟨_, rfl, o2, S2.dx, _, rfl, s1 _ _ A2.ob, nno S2, ?_⟩
    refine ⟨o2, S2, rfl, A2.same s1, few2, fun p2 ns2 G2 perm2 s2 hp2 => ?_⟩
    refine ⟨_, rfl, o1, S1.dx, _, rfl, s2 _ _ (s1 _ _ A1.ob), nno S1, ?_⟩
    refine ⟨o1, S1, rfl, (A1.same s1).same s2, few1, fun p1 ns1 G3 perm1 s3 hp1 => ?_⟩
    refine ⟨p1, rfl, ⟨_, SqL.of hp1⟩, ?_⟩
    have hp2' := s3 _ _ hp2
    refine for_list (K := K) (a := p1) (xs := ns1.map V.str) (fun j σ H' => ∃ q : Option V, σ = [some (.ref o1), some (.ref o2), some (.int lo), some (.int mo), some (.ref wt), some (.ref p2), q] ∧ Same G3 H')
      ⟨_, rfl, Same.refl _⟩ (fun j σ H' _ ⟨_, _, z⟩ => z.seq (SqL.of hp1)) ?_ ?_
    · rintro j x σ H4 hx ⟨q, rfl, s4⟩
      obtain ⟨z, hz, rfl⟩ : ∃ z, z ∈ ns1 ∧ x = V.str z := by
        rw [List.getElem?_map] at hx
        obtain ⟨z, h1, h2⟩ := Option.map_eq_some_iff.mp hx
        exact ⟨z, List.mem_of_getElem? h1, h2.symm⟩
      have nz : z ∉ ns2 := fun hz2 => by
        have m1 := perm1.mem_iff.mp hz
        have m2 := perm2.mem_iff.mp hz2
        have t : ((S1.cellN ++ S2.cellN) ++ (S1.locks ++ S2.locks) ++ (S1.beltN ++ S2.beltN)).Nodup := nd
        have ct := List.nodup_iff_count.mp t z
        have p1 := List.count_pos_iff.mpr m1
        have p2 := List.count_pos_iff.mpr m2
        simp only [List.count_append] at ct p1 p2
        omega
      have nv : inV (V.str z) (ns2.map V.str) = false := by
        unfold inV
        rw [List.any_map]
        exact List.any_eq_false.mpr fun y hy e => nz (by rw [← (eq_of_beq (show (y == z) = true from e))]; exact hy)
      refine ⟨_, rfl, _, rfl, p2, ns2.map V.str, rfl, .inl (s4.seq (SqL.of hp2')), rfl, ?_, _, rfl, ?_⟩
      · rw [List.all_map]
        exact List.all_eq_true.mpr fun _ _ => rfl
      · rw [show (if false = true then !inV (V.str z) (ns2.map V.str) else inV (V.str z) (ns2.map V.str)) = false from nv]
        exact iteF ⟨_, rfl, s4⟩
    · rintro σ H4 ⟨q, rfl, s4⟩
      have s5 : Same H H4 := ((s1.trans s2).trans s3).trans s4
      have B1 := A1.same s5
      have B2 := A2.same s5
      refine ⟨_, rfl, fun cd hcd => ?_⟩
      have sc := same_new (o := .dK []) hcd
      have C1 := B1.same sc
      refine ⟨_, rfl, o1, CS, S1.dx, _, _, rfl, C1.ob, X.cl, X.cells, sF_get1, S1.cd, S1.cells, rfl, .inl C1.c, ne_of_none B1.c hcd, upd_same, c1, ?_⟩
      have t1 : Same H4 (upd (upd H4 cd (.dK [])) cd (.dK S1.cells)) := fun b o e => by
        rw [upd_ne (ne_of_none e hcd), upd_ne (ne_of_none e hcd)]
        exact e
      have D2 := B2.same t1
      refine ⟨_, rfl, o2, CS, S2.dx, _, _, rfl, D2.ob, X.cl, X.cells, sF_get1, S2.cd, S2.cells, rfl, .inl D2.c, ne_of_none B2.c hcd, upd_same, c2, co, ?_⟩
      rw [upd_upd, upd_upd]
      have t2 : Same H4 (upd H4 cd (.dK (S1.cells ++ S2.cells))) := same_new hcd
      have E1 := B1.same t2
      have E2 := B2.same t2
      have lsz : (S1.locks.map V.str).length + (S2.locks.map V.str).length ≤ sizeLine := by
        rw [List.length_map, List.length_map]
        have z : ((S1.cellN ++ S2.cellN) ++ (S1.locks ++ S2.locks) ++ (S1.beltN ++ S2.beltN)).length < 60 := few
        simp only [List.length_append] at z
        exact Nat.le_trans (m := 60) (by omega) (small_sz (n := 60) (by decide))
      refine ⟨_, rfl, o1, CS, S1.dx, _, _, rfl, E1.ob, X.cl, X.locks, sF_get2, _, rfl, o2, CS, S2.dx, _, _, rfl, E2.ob, X.cl, X.locks, sF_get2, S1.lt, S2.lt, _, _, rfl, rfl, E1.l, E2.l, lsz, fun lt G6 t3 lq => ?_⟩
      have hc6 : G6 cd = some (.dK (S1.cells ++ S2.cells)) := t3 _ _ upd_same
      have t4 := t2.trans t3
      refine fun bd hbd => ?_
      have sb := same_new (o := .dK []) hbd
      have B3 := (B1.same t4)
      have B4 := (B2.same t4)
      have F1 := B3.same sb
      refine ⟨_, rfl, o1, CS, S1.dx, _, _, rfl, F1.ob, X.cl, X.belts, sF_get3, S1.bd, S1.belts, rfl, .inl F1.b, ne_of_none B3.b hbd, upd_same, b1, ?_⟩
      have t5 : Same G6 (upd (upd G6 bd (.dK [])) bd (.dK S1.belts)) := fun b o e => by
        rw [upd_ne (ne_of_none e hbd), upd_ne (ne_of_none e hbd)]
        exact e
      have F2 := B4.same t5
      refine ⟨_, rfl, o2, CS, S2.dx, _, _, rfl, F2.ob, X.cl, X.belts, sF_get3, S2.bd, S2.belts, rfl, .inl F2.b, ne_of_none B4.b hbd, upd_same, b2, bo, ?_⟩
      rw [upd_upd, upd_upd]
      have t6 : Same G6 (upd G6 bd (.dK (S1.belts ++ S2.belts))) := same_new hbd
      refine ⟨_, rfl, _, rfl, rfl, rfl, fun x dx hx hdx ne => ?_⟩
      have t7 : Same (upd G6 bd (.dK (S1.belts ++ S2.belts))) (upd (upd (upd G6 bd (.dK (S1.belts ++ S2.belts))) dx (.own x)) x (.ins CS dx [])) := (same_new hdx).trans (same_new (by rw [upd_ne (Ne.symm ne)]; exact hx))
      have t8 : Same H (upd (upd (upd G6 bd (.dK (S1.belts ++ S2.belts))) dx (.own x)) x (.ins CS dx [])) := ((s5.trans t4).trans t6).trans t7
      have hxH : H x = none := by
        cases e : H x with
        | none => rfl
        | some o =>
          rw [((s5.trans t4).trans t6) _ _ e] at hx
          cases hx
      refine ⟨x, dx, S1.both S2 lo mo, .ref wt, .ref cd, .ref lt, .ref bd, rfl, upd_same, ⟨⟨wt, rfl, .inr (seqT_same (((((s2.trans s3).trans s4).trans t4).trans t6).trans t7) wq)⟩, w1, w4, .inr ⟨cd, rfl, .inl (t7 _ _ (t6 _ _ hc6))⟩, ?_, ⟨lt, rfl, .inr ?_⟩, .inr ⟨bd, rfl, .inl (t7 _ _ upd_same)⟩, ?_, nd, ww, Nat.le_trans (Nat.le_of_lt few) (by decide), fun kv hkv H' tk => cv kv hkv H' (fun a xs h => tk a xs (seqT_same t8 h)), bz, l1, l2⟩, fun wt' cd' lt' bd' G' bt A' => ⟨rfl, ?_⟩⟩
      · show (S1.cells ++ S2.cells).map (·.1) = (S1.cellN ++ S2.cellN).map Sum.inr
        rw [List.map_append, List.map_append, A1.cn, A2.cn]
      · rw [show ((S1.both S2 lo mo).lN.map V.str) = S1.locks.map V.str ++ S2.locks.map V.str from List.map_append]
        exact seqT_same (t6.trans t7) lq
      · show (S1.belts ++ S2.belts).map (·.1) = (S1.beltN ++ S2.beltN).map Sum.inr
        rw [List.map_append, List.map_append, A1.bn, A2.bn]
      · exact k x dx wt' cd' lt' bd' G' hxH (fun b o e => bt b o (ne_of_none e hxH) (t8 b o e)) A'
end
end TW
namespace TW
open PySem PySem.Spec PyProof.Rows L2
/-- tuples stand as they stood -/
def TK (K : PySem.W.Frag) (H H' : Hp) : Prop := ∀ a xs, SqT K H a xs → SqT K H' a xs
theorem TK.of {K : PySem.W.Frag} {H H' : Hp} (e : Same H H') : TK K H H' := fun _ _ h => seqT_same e h
theorem TK.trans {K : PySem.W.Frag} {H H' H'' : Hp} (a : TK K H H') (b : TK K H' H'') : TK K H H'' := fun _ _ h => b _ _ (a _ _ h)
/-- what a work has come to with its answers: its wish, its end, its words -/
abbrev Beh := Hp → List V → V → V → List V → Prop
def BehS (K : PySem.W.Frag) (B : Beh) : Prop := ∀ H H' ans p e ws, TK K H H' → B H ans p e ws → B H' ans p e ws
/-- all but a hand, its dict and its list stand -/
def Keep3 (hd md wl : Addr) (G H : Hp) : Prop := ∀ b o, b ≠ hd → b ≠ md → b ≠ wl → G b = some o → H b = some o
/-- what stood ahead of a new hand stands, apart from it -/
def Base3 (H0 : Hp) (hd md wl : Addr) (G : Hp) : Prop := ∀ b o, H0 b = some o → b ≠ hd ∧ b ≠ md ∧ b ≠ wl ∧ G b = some o
theorem Base3.same {H0 : Hp} {hd md wl : Addr} {G H : Hp} (b : Base3 H0 hd md wl G) (k : Keep3 hd md wl G H) : Same H0 H := fun a o e =>
  let ⟨e1, e2, e3, e4⟩ := b a o e
  k a o e1 e2 e3 e4
/-- a work, called with a new hand, does as B says -/
def WorkOk (P : Program) (w : World) (K : PySem.W.Frag) (mg : Str → Option Value) (base : Heap) (C CS CH : Addr) (kw n : Nat) (S : SS) (g : Addr) (me : Nat) (Adm : List V → Prop) (B : Beh) : Prop :=
  ∃ s1, FnR P w K mg base (L2.CX P w) kw g s1 ∧ PySem.W.FnAt g base ∧ ∀ (sh an : Addr) (ans : List V) (hd dx md wl : Addr) (H0 G : Hp), ShopAt K CS H0 sh S → Base3 H0 hd md wl G → Adm ans → HandAt K C G hd dx (hs0 (me : Int) sh an ans md wl) →
    spUp s1 [.ref hd] G
      (fun v H2 => ∃ h, HandAt K C H2 hd dx h ∧ Keep3 hd md wl G H2 ∧ ((h.halted = true ∧ B H2 ans h.pend h.fin h.words) ∨ (h.halted = false ∧ Vn K H2 n v true ∧ ∀ H3 t, Same H2 H3 → H3 t = some (.tup [.str "told", v]) → B H3 ans h.pend (.ref t) h.words)))
      (fun cls d H2 => cls = .ref CH ∧ ∃ h, HandAt K C H2 hd dx h ∧ Keep3 hd md wl G H2 ∧ h.halted = true ∧ B H2 ans h.pend h.fin h.words)
section
variable {P : Program} {w : World} {K : PySem.W.Frag} {mg : Str → Option Value} {base : Heap} {C CS CP CH CV : Addr} {kw n : Nat}
theorem come_use {S : SS} {g : Addr} {me : Nat} {Adm : List V → Prop} {B : Beh} (hB : BehS K B) (hx : PySem.W.exmOne K (.ref CH) (.ref CH) = some true) (Wk : WorkOk P w K mg base C CS CH kw n S g me Adm B) {H : Hp} {sh an : Addr} {ans : List V} (hS : ShopAt K CS H sh S) (ha : SqT K H an ans)
    (hw : S.works[me]? = some (.ref g)) (adm : Adm ans) {Q : VK} {E : XK}
    (k : ∀ (pl dp tw : Addr) (pend fin : V) (words : List V) (H' : Hp), Same H H' → H pl = none → H' pl = some (.ins CP dp (pF (.ref an) pend fin (.ref tw))) → SqT K H' tw words → B H' ans pend fin words → Q (.ref pl) H') :
    spCome P w K mg base C CS CP CH CV kw n [.ref sh, .int (me : Int), .ref an] H Q E := by
  obtain ⟨s1, hF, hA, run⟩ := Wk
  refine ⟨sh, an, me, ans, S, g, s1, rfl, hS, ha, hw, hF, hA, fun hd dx md wl G n1 n2 n3 n4 sG hG => ?_⟩
  have old : ∀ {H2 : Hp}, Keep3 hd md wl G H2 → Same H H2 := fun {H2} kp b o e => kp b o (ne_of_none e n1) (ne_of_none e n3) (ne_of_none e n4) (sG b o e)
  have fin : ∀ (h : HS) (H2 : Hp) (fv : V), Same H H2 → (∀ H3, Same H2 H3 → B H3 ans h.pend fv h.words) → AfterP CP an Q { h with fin := fv } H2 := fun h H2 fv sm b pl dp tw G' p1 p2 _ _ _ s2 o1 o2 => by
    refine k pl dp tw h.pend fv h.words G' (sm.trans s2) ?_ o1 (SqT.of o2) (b G' s2)
    cases e : H pl with
    | none => rfl
    | some o =>
      rw [sm _ _ e] at p1
      cases p1
  obtain ⟨Q0, E0, z1, z2, z3⟩ := run sh an ans hd dx md wl H G hS (fun b o e => ⟨ne_of_none e n1, ne_of_none e n3, ne_of_none e n4, sG b o e⟩) adm hG
  refine ⟨Q0, E0, z1, fun v H2 q => ?_, fun cls d H2 q => ?_⟩
  · obtain ⟨h, hA2, kp, q⟩ := z2 v H2 q
    refine ⟨h, hA2, fun ht => ?_, fun hf => ?_⟩
    · rcases q with ⟨_, b⟩ | ⟨e, _⟩
      · exact fin h H2 h.fin (old kp) fun H3 s3 => hB _ _ _ _ _ _ (.of s3) b
      · rw [e] at ht
        cases ht
    · rcases q with ⟨e, _⟩ | ⟨_, vn, b⟩
      · rw [e] at hf
        cases hf
      · refine ⟨true, vn, fun H3 s3 => ⟨fun z => (nomatch z), fun _ t ht => ?_⟩⟩
        have s4 : Same H3 (upd H3 t (.tup [.str "told", v])) := same_new ht
        have hA4 := hA2.same (s3.trans s4)
        have ne : t ≠ hd := fun e => by
          rw [e, s3 _ _ hA2.ob] at ht
          cases ht
        have tk : TK K (upd H3 t (.tup [.str "told", v])) (upd (upd H3 t (.tup [.str "told", v])) hd (.ins C dx { h with fin := .ref t }.fs)) := fun a xs q => seqT_ins hA4.ob q
        refine fin h _ (.ref t) (fun c o e => ?_) fun H5 s5 => hB _ _ _ _ _ _ (tk.trans (.of s5)) (b _ t (s3.trans s4) upd_same)
        rw [upd_ne (ne_of_none e n1)]
        exact s4 _ _ (s3 _ _ (old kp _ _ e))
  · obtain ⟨rfl, h, hA2, kp, ht, b⟩ := z3 cls d H2 q
    exact ⟨true, hx, fun _ => ⟨h, hA2, ht, fin h H2 h.fin (old kp) fun H3 s3 => hB _ _ _ _ _ _ (.of s3) b⟩, fun z => (nomatch z)⟩
end
end TW
namespace TW
open PySem PySem.Spec PyProof.Rows L2
theorem pF_rF {C1 d1 C2 d2 : Addr} {a b c d e f g h : V} : HO.ins C1 d1 (pF a b c d) ≠ HO.ins C2 d2 (rF e f g h) := by
  intro z
  injection z with z1 z2 z3
  unfold pF rF at z3
  injection z3 with z4 z5
  injection z4 with z6 z7
  exact absurd z6 (by decide +kernel)
theorem upd_id {H : Hp} {a : Addr} {o : HO} (h : H a = some o) : upd H a o = H := by
  funext b
  by_cases e : b = a
  · rw [e, upd_same, h]
  · rw [upd_ne e]
/-- what a step answers and leaves in the cells -/
def DoesC (K : PySem.W.Frag) (w : World) (CT pS : Addr) (S : Addr → Option Sp) (me : Int) (pend : V) (H : Hp) (T : TS) (a : V) (c : List (Key × V)) : Prop :=
  ∀ (T2 : TS) (t2 : Addr) (G : Hp) (Q : VK), TK K H G → ThingsAt K CT G t2 T2 → T2.cells = T.cells → T2.holders = T.holders → T2.rows = T.rows → T2.sizes = T.sizes → Q a (upd G T2.cd (.dK c)) → spDoStep K w pS S [.ref t2, .int me, pend] G Q (fun _ _ _ => False)
/-- all but a run's own three objects stand -/
def But3 (r pl dn : Addr) (H H' : Hp) : Prop := ∀ b o, b ≠ r → b ≠ pl → b ≠ dn → H b = some o → H' b = some o
/-- a run, well laid -/
structure RunI (K : PySem.W.Frag) (CR CT CP : Addr) (H : Hp) (r : Addr) (R : RS) : Prop where
  at_ : RunAt K CR CT CP H r R
  ne : R.dn ≠ R.pl
theorem run_tk {K : PySem.W.Frag} {CR CT CP : Addr} {H H' : Hp} {r : Addr} {R : RS} (hR : RunAt K CR CT CP H r R) (b : But3 r R.pl R.dn H H') : TK K H H' := fun a xs q => by
  have no : ∀ (o : HO), H a = some o → (∀ C d fs, o ≠ .ins C d fs) → (∀ ys, o ≠ .lst ys) → H' a = some o := fun o e n1 n2 =>
    b a o (fun z => by rw [z, hR.ob] at e; exact n1 _ _ _ (Option.some.inj e).symm) (fun z => by rw [z, hR.p] at e; exact n2 _ (Option.some.inj e).symm) (fun z => by rw [z, hR.d] at e; exact n2 _ (Option.some.inj e).symm) e
  rcases q with (q | ⟨o, q⟩) | q
  · exact .inl (.inl (no _ q (fun _ _ _ z => (nomatch z)) fun _ z => (nomatch z)))
  · exact .inl (.inr ⟨o, no _ q (fun _ _ _ z => (nomatch z)) fun _ z => (nomatch z)⟩)
  · exact .inr q
end TW
namespace TW
open PySem PySem.Spec PyProof.Rows L2
theorem tF_rF {C1 d1 C2 d2 : Addr} {a b c d e f g h : V} : HO.ins C1 d1 (tF a b c d) ≠ HO.ins C2 d2 (rF e f g h) := by
  intro z
  injection z with z1 z2 z3
  unfold tF rF at z3
  injection z3 with z4 z5
  injection z4 with z6 z7
  exact absurd z6 (by decide +kernel)
theorem whl_i {K : PySem.W.Frag} {H : Hp} {i : Int} : Whl K H (.int i) true := ⟨"int", true, false, .base (.int i), by decide +kernel, fun _ => by decide +kernel, rfl⟩
/-- a run behind a step of work n -/
structure Went (K : PySem.W.Frag) (H' : Hp) (R R' : RS) (n : Nat) (pend : V) (a : V) (c : List (Key × V)) (y' : PS) : Prop where
  sh : R'.sh = R.sh
  pl : R'.pl = R.pl
  dn : R'.dn = R.dn
  c : R'.T.cells = c
  h : R'.T.holders = R.T.holders
  r : R'.T.rows = R.T.rows
  s : R'.T.sizes = R.T.sizes
  places : R'.places = R.places.set n y'
  done : ∃ t, R'.done = R.done ++ [.ref t] ∧ SqT K H' t [.int (n : Int), pend, a]
section
variable {P : Program} {w : World} {K : PySem.W.Frag} {mg : Str → Option Value} {base : Heap} {C CS CP CH CV CR CT CW CC pS : Addr} {kw m : Nat} {S : Addr → Option Sp} {Rel : Hp → V → V → Bool → Prop}
theorem place_but {H H' : Hp} {r : Addr} {R : RS} {x : PS} (hR : RunAt K CR CT CP H r R) (b : But3 r R.pl R.dn H H') (A : PlaceAt K CP H x) : PlaceAt K CP H' x :=
  ⟨b _ _ (ne_of A.ob hR.ob pF_rF) (ne_of A.ob hR.p (by intro z; cases z)) (ne_of A.ob hR.d (by intro z; cases z)) A.ob, run_tk hR b _ _ A.a, run_tk hR b _ _ A.w⟩
theorem go_use {SSh : SS} {g : Addr} {n : Nat} {Adm : List V → Prop} {B : Beh} (hB : BehS K B) (hx : PySem.W.exmOne K (.ref CH) (.ref CH) = some true) (Wk : WorkOk P w K mg base C CS CH kw m SSh g n Adm B) {H : Hp} {r : Addr} {R : RS} {y : PS} {a : V} {c : List (Key × V)}
    (hI : RunI K CR CT CP H r R) (hS : ShopAt K CS H R.sh SSh) (ey : R.places[n]? = some y) (hw : SSh.works[n]? = some (.ref g)) (can : CanGo K Rel H R.T y.pend true) (adm : Adm (y.ans ++ [a])) (do_ : DoesC K w CT pS S (n : Int) y.pend H R.T a c)
    (few1 : y.ans.length + 1 ≤ 100000) (few2 : R.done.length < sizeLine) (nh : R.T.cells ≠ R.T.holders) (nr : R.T.cells ≠ R.T.rows) {Q : VK} {E : XK}
    (k : ∀ (R' : RS) (y' : PS) (H' : Hp), But3 r R.pl R.dn H H' → RunI K CR CT CP H' r R' → Went K H' R R' n y.pend a c y' → y'.ans = y.ans ++ [a] → B H' y'.ans y'.pend y'.fin y'.words → Q a H') :
    spGo P w K CR CT CP CW CC pS S Rel (spCome P w K mg base C CS CP CH CV kw m) [.ref r, .int (n : Int)] H Q E := by
  have hR := hI.at_
  have mem := List.mem_of_getElem? ey
  have hn := (List.getElem?_eq_some_iff.mp ey).1
  refine ⟨r, R, .int (n : Int), true, rfl, hR, whl_i, fun z => (nomatch z), fun _ => ⟨n, rfl, fun z => absurd ⟨by omega, by omega⟩ z, fun n' y2 en ey2 => ?_⟩⟩
  obtain rfl : n = n' := by omega
  obtain rfl : y = y2 := Option.some.inj (ey.symm.trans ey2)
  refine ⟨true, can, fun H1 s1 => ⟨fun z => (nomatch z), fun _ t2 dx cd hd rd G n1 n2 n3 n4 n5 sG hT => ?_⟩⟩
  refine do_ { R.T with dx := dx, cd := cd, hd := hd, rd := rd } t2 G _ (TK.of (s1.trans sG)) hT rfl rfl rfl rfl ?_
  have s2 : Same H (upd G cd (.dK c)) := fun b o e => by
    rw [upd_ne (ne_of_none (s1 _ _ e) n3)]
    exact sG _ _ (s1 _ _ e)
  have hT2 : ThingsAt K CT (upd G cd (.dK c)) t2 { R.T with dx := dx, cd := cd, hd := hd, rd := rd, cells := c } := by
    have hc : G cd = some (.dK R.T.cells) := hT.c
    have hh : G hd = some (.dK R.T.holders) := hT.h
    have hr : G rd = some (.dK R.T.rows) := hT.r
    refine ⟨?_, upd_same, ?_, ?_, s2 _ _ hR.t.s⟩
    · exact (upd_ne (ne_of hT.ob hc (by intro z; cases z))).trans hT.ob
    · exact (upd_ne (ne_of hh hc (by intro z; injection z with z; exact nh z.symm))).trans hh
    · exact (upd_ne (ne_of hr hc (by intro z; injection z with z; exact nr z.symm))).trans hr
  refine ⟨s2 _ _ hR.ob, (hR.e y mem).same s2, few1, fun an2 H3 s3 ha => ?_⟩
  have s4 := s2.trans s3
  refine come_use hB hx Wk (hS.same s4) ha hw adm fun pl dp tw pend fin words H4 s5 hpl o4 w4 b4 => ?_
  have s6 : Same H H4 := s4.trans s5
  have q1 := s6 _ _ hR.ob
  have q2 := s6 _ _ hR.p
  have q3 := s6 _ _ hR.d
  have q4 := s6 _ _ (hR.e y mem).ob
  refine ⟨pl, rfl, q1, q2, q3, hI.ne, few2, q4, ne_of q4 q1 pF_rF, fun t ht => ?_⟩
  have z1 : r ≠ R.pl := ne_of q1 q2 (by intro z; cases z)
  have z2 : r ≠ R.dn := ne_of q1 q3 (by intro z; cases z)
  have g1 : goHp CR r R n t2 pl H4 r = some (.ins CR R.dx (rF (.ref R.sh) (.ref t2) (.ref R.pl) (.ref R.dn))) := (upd_ne z1).trans upd_same
  have g2 : goHp CR r R n t2 pl H4 R.pl = some (.lst ((R.places.map fun x => V.ref x.p).set n (.ref pl))) := upd_same
  have g0 : ∀ b o, b ≠ r → b ≠ R.pl → H4 b = some o → goHp CR r R n t2 pl H4 b = some o := fun b o e1 e2 e => (upd_ne e2).trans ((upd_ne e1).trans e)
  have bF : But3 r R.pl R.dn H4 (upd (upd (goHp CR r R n t2 pl H4) t (.tup [.int (n : Int), y.pend, a])) R.dn (.lst (R.done ++ [.ref t]))) := fun b o e1 e2 e3 e => by
    have z := g0 b o e1 e2 e
    rw [upd_ne e3, upd_ne (ne_of_none z ht)]
    exact z
  have ep : (R.places.map fun x => V.ref x.p).set n (.ref pl) = (R.places.set n ⟨pl, dp, an2, y.ans ++ [a], pend, fin, tw, words⟩).map fun x => V.ref x.p := by
    rw [List.map_set]
  have hR4 : RunAt K CR CT CP H4 r R := hR.same s6
  have tk := run_tk hR4 bF
  have td : t ≠ R.dn := fun e => by
    rw [e] at ht
    rw [show goHp CR r R n t2 pl H4 R.dn = some (.lst R.done) from g0 _ _ (Ne.symm z2) hI.ne q3] at ht
    cases ht
  have u1 : upd (upd (goHp CR r R n t2 pl H4) t (.tup [.int (n : Int), y.pend, a])) R.dn (.lst (R.done ++ [.ref t])) r = some (.ins CR R.dx (rF (.ref R.sh) (.ref t2) (.ref R.pl) (.ref R.dn))) := by
    rw [upd_ne z2, upd_ne (ne_of_none g1 ht)]
    exact g1
  have u2 : upd (upd (goHp CR r R n t2 pl H4) t (.tup [.int (n : Int), y.pend, a])) R.dn (.lst (R.done ++ [.ref t])) R.pl = some (.lst ((R.places.set n ⟨pl, dp, an2, y.ans ++ [a], pend, fin, tw, words⟩).map fun x => V.ref x.p)) := by
    rw [upd_ne (Ne.symm hI.ne), upd_ne (ne_of_none g2 ht), g2, ep]
  have T4 : ThingsAt K CT H4 t2 { R.T with dx := dx, cd := cd, hd := hd, rd := rd, cells := c } := hT2.same (s3.trans s5)
  have kp : ∀ {b : Addr} {o : HO}, H4 b = some o → (∀ a b c d, o ≠ .ins CR R.dx (rF a b c d)) → (∀ ys, o ≠ .lst ys) → (upd (upd (goHp CR r R n t2 pl H4) t (.tup [.int (n : Int), y.pend, a])) R.dn (.lst (R.done ++ [.ref t]))) b = some o := fun {b o} e e1 e2 =>
    bF b o (ne_of e q1 (e1 _ _ _ _)) (ne_of e q2 (e2 _)) (ne_of e q3 (e2 _)) e
  refine k ⟨R.dx, R.sh, t2, R.pl, R.dn, { R.T with dx := dx, cd := cd, hd := hd, rd := rd, cells := c }, R.places.set n ⟨pl, dp, an2, y.ans ++ [a], pend, fin, tw, words⟩, R.done ++ [.ref t]⟩ ⟨pl, dp, an2, y.ans ++ [a], pend, fin, tw, words⟩ _ (fun b o e1 e2 e3 e => bF b o e1 e2 e3 (s6 _ _ e)) ⟨⟨u1, ?_, u2, fun x hx => ?_, upd_same⟩, hI.ne⟩
    ⟨rfl, rfl, rfl, rfl, rfl, rfl, rfl, rfl, t, rfl, SqT.of ((upd_ne td).trans upd_same)⟩ rfl (hB _ _ _ _ _ _ tk b4)
  · refine ⟨kp T4.ob (fun _ _ _ _ => tF_rF) (fun _ z => (nomatch z)), kp T4.c (fun _ _ _ _ z => (nomatch z)) (fun _ z => (nomatch z)), kp T4.h (fun _ _ _ _ z => (nomatch z)) (fun _ z => (nomatch z)), kp T4.r (fun _ _ _ _ z => (nomatch z)) (fun _ z => (nomatch z)), kp T4.s (fun _ _ _ _ z => (nomatch z)) (fun _ z => (nomatch z))⟩
  · rcases List.mem_or_eq_of_mem_set hx with h | rfl
    · exact place_but hR4 bF (hR4.e x h)
    · exact place_but hR4 bF ⟨o4, seqT_same s5 ha, w4⟩
end
end TW
namespace TW
open PySem PySem.Spec PyProof.Rows L2
section
variable {P : Program} {w : World} {K : PySem.W.Frag} {mg : Str → Option Value} {base : Heap} {CT pS : Addr} {S : Addr → Option Sp} {Rel : Hp → V → V → Bool → Prop}
theorem does_look {H : Hp} {T : TS} {wt f : Addr} {nm : Str} {me : Int} {v : V} (hw : SqT K H wt [.str "look", .str nm]) (hv : valV T.cells (Sum.inr nm) = some v) (hk : KDct K w pS "look" (.ref f)) (hs : S f = some (spStep K CT dLook)) : DoesC K w CT pS S me (.ref wt) H T v T.cells := by
  intro T2 t2 G Q tk hT e1 e2 e3 e4 hq
  have ei : upd G T2.cd (.dK T.cells) = G := by
    have z := hT.c
    rw [e1] at z
    exact upd_id z
  rw [ei] at hq
  exact ⟨.ref t2, .int me, wt, f, "look", [.str nm], _, rfl, tk _ _ hw, hk, hs, t2, wt, me, T2, "look", nm, [], rfl, hT, tk _ _ hw, v, by rw [e1]; exact hv, hq⟩
theorem does_swap {H : Hp} {T : TS} {wt f : Addr} {nm : Str} {me : Int} {v x : V} (hw : SqT K H wt [.str "swap", .str nm, x]) (hv : valV T.cells (Sum.inr nm) = some v) (few : T.cells.length < sizeLine) (hk : KDct K w pS "swap" (.ref f)) (hs : S f = some (spStep K CT dSwap)) : DoesC K w CT pS S me (.ref wt) H T v (putK T.cells (Sum.inr nm) x) := by
  intro T2 t2 G Q tk hT e1 e2 e3 e4 hq
  refine ⟨.ref t2, .int me, wt, f, "swap", [.str nm, x], _, rfl, tk _ _ hw, hk, hs, t2, wt, me, T2, "swap", nm, [x], rfl, hT, tk _ _ hw, x, [], v, rfl, by rw [e1]; exact hv, by rw [e1]; exact few, ?_⟩
  rw [e1]
  exact hq
theorem can_plain {H : Hp} {T : TS} {wt : Addr} {word : Str} {rest : List V} (hw : SqT K H wt (.str word :: rest)) (n1 : word ≠ "until") (n2 : word ≠ "take") (n3 : word ≠ "lay") (n4 : word ≠ "fetch") : CanGo K Rel H T (.ref wt) true :=
  .inr ⟨wt, word, rest, rfl, hw, fun z => absurd z n1, fun z => absurd z n2, fun z => absurd z n3, fun z => absurd z n4, fun _ _ _ _ => rfl⟩
theorem can_end {H : Hp} {T : TS} : CanGo K Rel H T .non false := .inl ⟨rfl, rfl⟩
end
end TW
namespace TW
open PySem PySem.Spec PyProof.Rows L2
abbrev sNum : Stmt := top 69
def FlatA (v : V) : Prop := (∃ i : Int, v = .int i) ∨ ∃ s : Str, v = .str s
def toldN (b : Int) (m : Nat) (a : V) : V := if a = .int b then .str "first" else .int (m : Nat)
/-- what the law's own numbered work comes to -/
def BNum (K : PySem.W.Frag) (b : Int) (m : Nat) : Beh := fun H ans pend fin words =>
  (ans.length < m ∧ fin = .non ∧ words = [.int (m : Nat)] ∧ ∃ t, pend = .ref t ∧ SqT K H t [.str "look", .str "x"]) ∨
  (ans.length = m ∧ fin = .non ∧ words = [.int (m : Nat)] ∧ ∃ t, pend = .ref t ∧ SqT K H t [.str "swap", .str "x", .int (b + m)]) ∨
  (ans.length = m + 1 ∧ pend = .non ∧ ∃ a t t2, ans[m]? = some a ∧ fin = .ref t ∧ SqT K H t [.str "told", toldN b m a] ∧ words = [.int (m : Nat), .ref t2] ∧ SqT K H t2 [a, .int (m : Nat)])
theorem bnum_s {K : PySem.W.Frag} {b : Int} {m : Nat} : BehS K (BNum K b m) := by
  intro H H' ans p e ws tk h
  rcases h with ⟨h1, h2, h3, t, h4, h5⟩ | ⟨h1, h2, h3, t, h4, h5⟩ | ⟨h1, h2, a, t, t2, h3, h4, h5, h6, h7⟩
  · exact .inl ⟨h1, h2, h3, t, h4, tk _ _ h5⟩
  · exact .inr (.inl ⟨h1, h2, h3, t, h4, tk _ _ h5⟩)
  · exact .inr (.inr ⟨h1, h2, a, t, t2, h3, h4, tk _ _ h5, h6, tk _ _ h7⟩)
def spNum (K : PySem.W.Frag) (C CS CH : Addr) : Sp := fun vs H Q E => ∃ (hd dx md wl sh an : Addr) (b : Int) (m : Nat) (ans : List V) (S : SS) (H0 : Hp), vs = [.int b, .ref hd] ∧ HandAt K C H hd dx (hs0 (m : Int) sh an ans md wl) ∧ ShopAt K CS H0 sh S ∧ Base3 H0 hd md wl H ∧ ("x" : Str) ∈ S.cellN ∧ ans.length ≤ m + 1 ∧ m ≤ 100 ∧ (∀ a ∈ ans, FlatA a) ∧
  (∀ H2 h2, HandAt K C H2 hd dx h2 → Keep3 hd md wl H H2 → h2.halted = true → BNum K b m H2 ans h2.pend h2.fin h2.words → E (.ref CH) none H2) ∧
  (∀ H2 h2 a t2, HandAt K C H2 hd dx h2 → Keep3 hd md wl H H2 → h2.halted = false → h2.pend = .non → ans.length = m + 1 → ans[m]? = some a → h2.words = [.int (m : Nat), .ref t2] → SqT K H2 t2 [a, .int (m : Nat)] → Q (toldN b m a) H2)
theorem HandAt.say {K : PySem.W.Frag} {C : Addr} {H : Hp} {hd dx : Addr} {h : HS} {ws : List V} (A : HandAt K C H hd dx h) : HandAt K C (upd H h.wl (.lst ws)) hd dx { h with words := ws } := by
  refine ⟨?_, ?_, ?_, upd_same⟩
  · rw [upd_ne (ne_of A.ob A.w (by intro z; cases z))]
    exact A.ob
  · exact sqT_but A.w (fun _ z => (nomatch z)) (fun _ _ z => (nomatch z)) But.put A.a
  · exact (upd_ne (ne_of A.m A.w (by intro z; cases z))).trans A.m
section
variable {P : Program} {w : World} {K : PySem.W.Frag} {mg : Str → Option Value} {base : Heap} {C CS CH CN CV : Addr} {n : Nat}
theorem scNum : FnScope ["_law_base", "_law_hand", "_law_k", "_law_found"] ["_law_base", "_law_hand"] (defScope sNum) := ⟨rfl, rfl, rfl, by decide +kernel, rfl, by decide +kernel, by decide +kernel⟩
theorem ok_num {f fL fW fY : Addr} {fd fdL fdW fdY : FuncData} (F : Fun K "_law_numbered" "_law_numbered" sNum f fd) (B : Blt mg) (T : HTxt K C)
    (GL : FnOk P w K mg base (L2.CX P w) (n + 5) fL fdL ["self", "cell"] (spWish K C CS CH CN CV n 0 SS.cellN "look")) (hL : Meth K C "look" fL) (bL : Binds K fdL ["self", "cell"] [])
    (GW : FnOk P w K mg base (L2.CX P w) (n + 5) fW fdW ["self", "cell", "value"] (spWish K C CS CH CN CV n 1 SS.cellN "swap")) (hW : Meth K C "swap" fW) (bW : Binds K fdW ["self", "cell", "value"] [])
    (GY : FnOk P w K mg base (L2.CX P w) (n + 4) fY fdY ["self", "value"] (spSay K C CH CV n)) (hY : Meth K C "say" fY) (bY : Binds K fdY ["self", "value"] []) (hn : 1 ≤ n) :
    FnOk P w K mg base (L2.CX P w) (n + 6) f fd ["_law_base", "_law_hand"] (spNum K C CS CH) := by
  refine F.okX scNum (fun vs H Q E h => ?_) (fun cdv A outer s H vs Q E hr h => ?_)
  · obtain ⟨hd, dx, md, wl, sh, an, b, m, ans, S, H0, rfl, _⟩ := h
    rfl
  · obtain ⟨hd, dx, md, wl, sh, an, b, m, ans, S, H0, rfl, hA, hS, hB3, hx, few, few2, fl, kE, kQ⟩ := h
    have hr4 : Room (n + 4) _ := hr.mono (by omega)
    have px : Passes (L2.CX P w) (cxOf (L2.CX P w) P w K mg base ["_law_base", "_law_hand", "_law_k", "_law_found"] "_law_numbered" (defScope sNum) f cdv A outer s H E) E := fun pins σ H s e s' I c => passAt (takes_of (E := E) rfl rfl rfl rfl) σ pins H s e s' I c
    refine ⟨_, pss_cons (ps_expr (pe_meth (pv 1) T.cl hY GY hr4 bY .nil px (pa_cons (pe_fld (pv 1) rfl) pa_nil)))
      (pss_cons (ps_for (passes_of rfl) rfl (pi_range1 (by rfl) B.range (pa_cons (pe_fld (pv 1) rfl) pa_nil)) (pg_name (i := 2) scNum.nd rfl (Or.inl rfl)) (pss_one (ps_expr (pe_meth (pv 1) T.cl hL GL hr bL .nil px (pa_cons pe_str pa_nil)))))
      (pss_cons (ps_set (i := 3) scNum.nd rfl (.inl rfl) (pe_meth (pv 1) T.cl hW GW hr bW .nil px (pa_cons pe_str (pa_cons (pe_op op_add (pv 0) (pe_fld (pv 1) rfl)) pa_nil))))
      (pss_cons (ps_expr (pe_meth (pv 1) T.cl hY GY hr4 bY .nil px (pa_cons (pe_tup (pa_cons (pv 3) (pa_cons (pe_fld (pv 1) rfl) pa_nil))) pa_nil)))
      (pss_one (ps_ret (pe_ifExp (pt_cmpR op_ne (pv 3) (pv 0) (nomark _)) (pe_fld (pv 1) rfl) pe_str)))))), ?_⟩
    have nsay : ∀ (h : HS), h.fs.lookup ("say" : Str) = none := fun h => hF_no (by decide +kernel) (by decide +kernel) (by decide +kernel) (by decide +kernel) (by decide +kernel) (by decide +kernel) (by decide +kernel) (by decide +kernel) (by decide +kernel)
    have nlook : ∀ (h : HS), h.fs.lookup ("look" : Str) = none := fun h => hF_no (by decide +kernel) (by decide +kernel) (by decide +kernel) (by decide +kernel) (by decide +kernel) (by decide +kernel) (by decide +kernel) (by decide +kernel) (by decide +kernel)
    have nswap : ∀ (h : HS), h.fs.lookup ("swap" : Str) = none := fun h => hF_no (by decide +kernel) (by decide +kernel) (by decide +kernel) (by decide +kernel) (by decide +kernel) (by decide +kernel) (by decide +kernel) (by decide +kernel) (by decide +kernel)
    refine ⟨_, rfl, hd, dx, _, rfl, hA.ob, nsay _, ?_⟩
    refine ⟨_, rfl, hd, C, dx, _, _, rfl, hA.ob, T.cl, T.me, hF_get0, ?_⟩
    refine ⟨hd, dx, _, .int (m : Int), true, rfl, hA, (by show 0 ≤ 1000; decide), .int _ _, fun z => (nomatch z), fun H1 s1 => ⟨fun _ z => (nomatch z), fun _ _ => ?_⟩⟩
    have A1 : HandAt K C (upd H1 wl (.lst [.int (m : Int)])) hd dx { hs0 (m : Int) sh an ans md wl with words := [.int (m : Int)] } := (hA.same s1).say
    have k1 : Keep3 hd md wl H (upd H1 wl (.lst [.int (m : Int)])) := fun b o _ _ e3 e => by
      rw [upd_ne e3]
      exact s1 _ _ e
    refine ⟨_, rfl, hd, C, dx, _, _, rfl, A1.ob, T.cl, T.me, hF_get0, (m : Int), rfl, by omega, by omega, ?_⟩
    refine for_range (lo := 0) (n := m) (fun j σ H' => ∃ q : Option V, σ = [some (.int b), some (.ref hd), q, none] ∧ j ≤ ans.length ∧ HandAt K C H' hd dx { hs0 (m : Int) sh an ans md wl with words := [.int (m : Int)], asked := j } ∧ Keep3 hd md wl H H')
      ⟨_, rfl, Nat.zero_le _, A1, k1⟩ ?_ ?_
    · rintro j σ H3 hj ⟨q, rfl, lj, A3, k3⟩
      have S3 : ShopAt K CS H3 sh S := hS.same (hB3.same k3)
      refine ⟨_, rfl, hd, dx, _, rfl, A3.ob, nlook _, ?_⟩
      refine ⟨hd, dx, _, S, .str "x", true, [], [], rfl, rfl, A3, S3, lj, by show ans.length ≤ 1000; omega, .inl ⟨_, rfl, (decide_eq_true hx).symm⟩, rfl, fun i r c e => (nomatch e), fun H4 s4 => ⟨fun z => (nomatch z), fun _ z => (nomatch z), fun _ _ i r e => (nomatch e), fun _ _ _ => ⟨fun v hv => ?_, fun t ht e => ?_⟩⟩⟩
      · have A4 := (A3.same s4).set (h' := { hs0 (m : Int) sh an ans md wl with words := [.int (m : Int)], asked := j + 1 }) ⟨rfl, rfl, rfl, rfl, rfl, rfl⟩
        refine ⟨_, rfl, (List.getElem?_eq_some_iff.mp hv).1, A4, fun c o e1 e2 e3 e => ?_⟩
        rw [upd_ne e1]
        exact s4 _ _ (k3 c o e1 e2 e3 e)
      · have A4 := (A3.same s4).set (h' := { hs0 (m : Int) sh an ans md wl with words := [.int (m : Int)], asked := j, pend := .ref t, halted := true }) ⟨rfl, rfl, rfl, rfl, rfl, rfl⟩
        have e : j = ans.length := e
        refine kE _ _ A4 (fun c o e1 e2 e3 q => ?_) rfl (.inl ⟨by omega, rfl, rfl, t, rfl, SqT.of ((upd_ne (ne_of ht (A3.same s4).ob (by intro z; cases z))).trans ht)⟩)
        rw [upd_ne e1]
        exact s4 _ _ (k3 c o e1 e2 e3 q)
    · rintro σ H3 ⟨q, rfl, lj, A3, k3⟩
      have S3 : ShopAt K CS H3 sh S := hS.same (hB3.same k3)
      refine ⟨_, rfl, hd, dx, _, rfl, A3.ob, nswap _, ?_⟩
      refine ⟨_, rfl, _, rfl, hd, C, dx, _, _, rfl, A3.ob, T.cl, T.me, hF_get0, ?_⟩
      have vn : ∀ (i : Nat) (r : V) (c : Bool), ([V.int (b + (m : Int))] : List V)[i]? = some r → ([true] : List Bool)[i]? = some c → Vn K H3 n r c := fun i r c e1 e2 => match i, e1, e2 with
        | 0, e1, e2 => by
          cases e1
          cases e2
          exact .int _ _
      refine ⟨_, _, rfl, rfl, hd, dx, _, S, .str "x", true, [.int (b + (m : Int))], [true], rfl, rfl, A3, S3, lj, by show ans.length ≤ 1000; omega, .inl ⟨_, rfl, (decide_eq_true hx).symm⟩, rfl, vn, fun H4 s4 => ⟨fun z => (nomatch z), fun _ z => (nomatch z), fun _ _ i r e1 e2 => ?_, fun _ _ _ => ⟨fun v hv => ?_, fun t ht e => ?_⟩⟩⟩
      · match i, e2 with
        | 0, e2 => cases e2
      · have hv : ans[m]? = some v := hv
        have A5 := (A3.same s4).set (h' := { hs0 (m : Int) sh an ans md wl with words := [.int (m : Int)], asked := m + 1 }) ⟨rfl, rfl, rfl, rfl, rfl, rfl⟩
        have k5 : Keep3 hd md wl H (upd H4 hd (.ins C dx { hs0 (m : Int) sh an ans md wl with words := [.int (m : Int)], asked := m + 1 }.fs)) := fun c o e1 e2 e3 e => by
          rw [upd_ne e1]
          exact s4 _ _ (k3 c o e1 e2 e3 e)
        refine ⟨_, rfl, hd, dx, _, rfl, A5.ob, nsay _, ?_⟩
        refine ⟨_, rfl, _, rfl, hd, C, dx, _, _, rfl, A5.ob, T.cl, T.me, hF_get0, two_sz, fun p hp => ?_⟩
        have fa := fl v (List.mem_of_getElem? hv)
        have s6 := same_new (o := .tup [v, .int (m : Int)]) hp
        have A6 := A5.same s6
        have vp : Vn K (upd (upd H4 hd (.ins C dx { hs0 (m : Int) sh an ans md wl with words := [.int (m : Int)], asked := m + 1 }.fs)) p (.tup [v, .int (m : Int)])) n (.ref p) true := by
          obtain ⟨n', rfl⟩ : ∃ n', n = n' + 1 := ⟨n - 1, by omega⟩
          refine .tup (bs := [true, true]) (SqT.of upd_same) rfl (by show 2 ≤ 1000; decide) fun i x c e1 e2 => ?_
          match i, e1, e2 with
          | 0, e1, e2 =>
            cases e1
            cases e2
            rcases fa with ⟨z, rfl⟩ | ⟨z, rfl⟩
            · exact .int _ _
            · exact .str _ _
          | 1, e1, e2 =>
            cases e1
            cases e2
            exact .int _ _
        refine ⟨hd, dx, _, .ref p, true, rfl, A6, by show 1 ≤ 1000; decide, vp, fun z => (nomatch z), fun H7 s7 => ⟨fun _ z => (nomatch z), fun _ _ => ?_⟩⟩
        have A8 := (A6.same s7).say (ws := [.int (m : Int)] ++ [.ref p])
        have k8 : Keep3 hd md wl H (upd H7 wl (.lst ([.int (m : Int)] ++ [.ref p]))) := fun c o e1 e2 e3 e => by
          rw [upd_ne e3]
          exact s7 _ _ (s6 _ _ (k5 c o e1 e2 e3 e))
        have pw : SqT K (upd H7 wl (.lst ([.int (m : Int)] ++ [.ref p]))) p [v, .int (m : Int)] := sqT_but (A6.same s7).w (fun _ z => (nomatch z)) (fun _ _ z => (nomatch z)) But.put (SqT.of (s7 _ _ upd_same))
        have fin := kQ _ _ v p A8 k8 rfl rfl (by have := (List.getElem?_eq_some_iff.mp hv).1; omega) hv rfl pw
        have ct : scal v (.int b) = true := by
          rcases fa with ⟨z, rfl⟩ | ⟨z, rfl⟩ <;> rfl
        refine ⟨_, rfl, _, rfl, ct, _, rfl, ?_⟩
        by_cases c : v = .int b
        · rw [show toldN b m v = .str "first" from if_pos c] at fin
          rw [decide_eq_true c]
          exact iteF fin
        · rw [show toldN b m v = .int (m : Nat) from if_neg c] at fin
          rw [decide_eq_false c]
          exact iteT ⟨_, rfl, hd, C, dx, _, _, rfl, A8.ob, T.cl, T.me, hF_get0, fin⟩
      · have A4 := (A3.same s4).set (h' := { hs0 (m : Int) sh an ans md wl with words := [.int (m : Int)], asked := m, pend := .ref t, halted := true }) ⟨rfl, rfl, rfl, rfl, rfl, rfl⟩
        have e : m = ans.length := e
        refine kE _ _ A4 (fun c o e1 e2 e3 q => ?_) rfl (.inr (.inl ⟨by omega, rfl, rfl, t, rfl, SqT.of ((upd_ne (ne_of ht (A3.same s4).ob (by intro z; cases z))).trans ht)⟩))
        rw [upd_ne e1]
        exact s4 _ _ (k3 c o e1 e2 e3 q)
end
end TW
namespace TW
open PySem PySem.Spec PyProof.Rows L2
abbrev sTrying : Stmt := top 71
section
variable {X : Cx} {k : Nat} {f C : Addr} {fd : FuncData} {ps : List Str} {sp : Sp} {E : L2.St → XK} {m : Str} {pos apos : Pos} {e o : Expr} {es : List Expr} {ta : TE} {t : TA}
/-- o.m(e, ..) within a try: the wish of what is raised goes by the slots -/
def tMethW (C : Addr) (m : Str) (sp : Sp) (E : L2.St → XK) (ta : TE) (t : TA) : TE := fun σ H Q => ta σ H fun x H1 => ∃ a dx fs, x = .ref a ∧ H1 a = some (.ins C dx fs) ∧ fs.lookup m = none ∧ t σ H1 fun vs H2 => sp (x :: vs) H2 Q (E σ)
theorem pe_methW {CX : CXT} {pl : Sem Bool} (he : PE X o ta) (c : Cls X.K C) (hm : Meth X.K C m f) (F : FnOk X.prog X.w X.K X.mg X.base CX k f fd ps sp) (hr : Room k X.A) (hb : Binds X.K fd ps []) (hx : ∀ σ, PassesAt CX X σ (E σ)) (ha : PA X (e :: es) t)
    (hst : starEach (e :: es) X.env = (false, eval e X.env) :: starEach es X.env := by rfl) (hpl : (backTo pos (starEach es X.env)).any (·.1) = false := by rfl)
    (ht : eval (.Call (.Attribute o m apos) (e :: es) [] pos) X.env = (do
      let ov ← eval o X.env
      standAt apos.atName
      let (f, first) ← holding [ov] (getMethod ov m pl)
      callWith pos f first (backTo pos (starEach (e :: es) X.env)) (backToKw pos (keywordEach [] X.env))) := by rfl) :
    PE X (.Call (.Attribute o m apos) (e :: es) [] pos) (tMethW C m sp E ta t) := by
  refine ⟨fun pins s σ H Q I h => ?_⟩
  refine PySem.W.methodCall_KW (pl := pl) (thn (he.run pins s σ H _ I h) fun u s1 ⟨x, H1, I1, rx, a, dx, fs, ex, ea, l, q⟩ => ?_) ht
  subst ex
  obtain rfl : u = Value.ref a := rx
  refine getmeth_ok I1 ea c hm l ?_
  refine PySem.W.callWith_K (first := [.ref a]) (h₀ := X.base) I.ok.mod.kin hm.kp (thn (ha.run pos pins s1 σ H1 _ I1 q) fun us s2 ⟨vs, H2, I2, r, q2⟩ => ⟨I2.kIn, ?_⟩) hst hpl
  exact run_fnS (us := .ref a :: us) (vs := .ref a :: vs) F hr hb (hx σ) I2 (.cons rfl r) q2
end
def FlatB (v : V) : Prop := (∃ i : Int, v = .int i) ∨ (∃ s : Str, v = .str s) ∨ ∃ b : Bool, v = .bl b
theorem FlatB.vn {K : PySem.W.Frag} {H : Hp} {n : Nat} {v : V} (h : FlatB v) : Vn K H n v true := by
  rcases h with ⟨i, rfl⟩ | ⟨s, rfl⟩ | ⟨b, rfl⟩
  · exact .int _ _
  · exact .str _ _
  · exact .bl _ _
/-- what a work that looks at x comes to -/
def BTry (K : PySem.W.Frag) (isX : Bool) (me : Int) : Beh := fun H ans pend fin words =>
  (isX = true ∧ ans = [] ∧ fin = .non ∧ words = [] ∧ ∃ t, pend = .ref t ∧ SqT K H t [.str "look", .str "x"]) ∨
  (isX = true ∧ pend = .non ∧ ∃ a t, ans = [a] ∧ words = [a] ∧ fin = .ref t ∧ SqT K H t [.str "told", .int me]) ∨
  (isX = false ∧ ans = [] ∧ pend = .non ∧ ∃ t u, fin = .ref t ∧ SqT K H t [.str "told", .int me] ∧ words = [.ref u] ∧ SqT K H u [.str "none", .str "x"])
theorem btry_s {K : PySem.W.Frag} {isX : Bool} {me : Int} : BehS K (BTry K isX me) := by
  intro H H' ans p e ws tk h
  rcases h with ⟨h1, h2, h3, h4, t, h5, h6⟩ | ⟨h1, h2, a, t, h3, h4, h5, h6⟩ | ⟨h1, h2, h3, t, u, h4, h5, h6, h7⟩
  · exact .inl ⟨h1, h2, h3, h4, t, h5, tk _ _ h6⟩
  · exact .inr (.inl ⟨h1, h2, a, t, h3, h4, h5, tk _ _ h6⟩)
  · exact .inr (.inr ⟨h1, h2, h3, t, u, h4, tk _ _ h5, h6, tk _ _ h7⟩)
def spTry (K : PySem.W.Frag) (C CS CH : Addr) : Sp := fun vs H Q E => ∃ (hd dx md wl sh an : Addr) (me : Int) (ans : List V) (S : SS) (H0 : Hp), vs = [.ref hd] ∧ HandAt K C H hd dx (hs0 me sh an ans md wl) ∧ ShopAt K CS H0 sh S ∧ Base3 H0 hd md wl H ∧ ans.length ≤ 1 ∧ (("x" : Str) ∉ S.cellN → ans = []) ∧ (∀ a ∈ ans, FlatB a) ∧
  (∀ H2 h2 t, HandAt K C H2 hd dx h2 → Keep3 hd md wl H H2 → h2.halted = true → ("x" : Str) ∈ S.cellN → ans = [] → h2.fin = .non → h2.words = [] → h2.pend = .ref t → SqT K H2 t [.str "look", .str "x"] → E (.ref CH) none H2) ∧
  (∀ H2 h2 x, HandAt K C H2 hd dx h2 → Keep3 hd md wl H H2 → h2.halted = false → h2.pend = .non → h2.words = [x] → ((("x" : Str) ∈ S.cellN ∧ ans = [x]) ∨ (("x" : Str) ∉ S.cellN ∧ ans = [] ∧ ∃ u, x = .ref u ∧ SqT K H2 u [.str "none", .str "x"])) → Q (.int me) H2)
section
variable {P : Program} {w : World} {K : PySem.W.Frag} {mg : Str → Option Value} {base : Heap} {C CS CH CN CV : Addr} {n : Nat}
theorem scTrying : FnScope ["_law_hand", "_law_found", "e"] ["_law_hand"] (defScope sTrying) := ⟨rfl, rfl, rfl, by decide +kernel, rfl, by decide +kernel, by decide +kernel⟩
theorem ok_trying {f fL fY : Addr} {fd fdL fdY : FuncData} (F : Fun K "_law_trying" "_law_trying" sTrying f fd) (T : HTxt K C) (mN : mg "NoThing" = some (.ref CN)) (XN : XfC K CN) (hno : PySem.W.findIn K (.ref CN) "name" = some none) (eN : PySem.W.exmOne K (.ref CN) (.ref CN) = some true) (eH : PySem.W.exmOne K (.ref CH) (.ref CN) = some false)
    (GL : FnOk P w K mg base (L2.CX P w) (n + 5) fL fdL ["self", "cell"] (spWish K C CS CH CN CV n 0 SS.cellN "look")) (hL : Meth K C "look" fL) (bL : Binds K fdL ["self", "cell"] [])
    (GY : FnOk P w K mg base (L2.CX P w) (n + 4) fY fdY ["self", "value"] (spSay K C CH CV n)) (hY : Meth K C "say" fY) (bY : Binds K fdY ["self", "value"] []) (hn : 1 ≤ n) :
    FnOk P w K mg base (L2.CX P w) (n + 6) f fd ["_law_hand"] (spTry K C CS CH) := by
  refine F.okX scTrying (fun vs H Q E h => ?_) (fun cdv A outer s H vs Q E hr h => ?_)
  · obtain ⟨hd, dx, md, wl, sh, an, me, ans, S, H0, rfl, _⟩ := h
    rfl
  · obtain ⟨hd, dx, md, wl, sh, an, me, ans, S, H0, rfl, hA, hS, hB3, few, noX, fl, kE, kQ⟩ := h
    have hr4 : Room (n + 4) _ := hr.mono (by omega)
    have px : Passes (L2.CX P w) (cxOf (L2.CX P w) P w K mg base ["_law_hand", "_law_found", "e"] "_law_trying" (defScope sTrying) f cdv A outer s H E) E := fun pins σ H s e s' I c => passAt (takes_of (E := E) rfl rfl rfl rfl) σ pins H s e s' I c
    refine ⟨_, pss_cons (ps_try_as (i := 2) (c := .ref CN) (tb := fun W => tAsg (tMethW C "look" (spWish K C CS CH CN CV n 0 SS.cellN "look") (WE W) (tVar 0) (tCons (tC (.str "x")) tNil)) (gName 1)) (ts := fun a cls d => tAsg (tTup (tCons (tC (.str "none")) (tCons (tXf a cls d CN "name" (tVar 2)) tNil))) (gName 1)) (Wout := fun cls d _ H => E cls d H) rfl rfl scTrying.nd rfl rfl ⟨rfl, by decide, .inl mN⟩ (takes_of (E := E) rfl rfl rfl rfl)
        (fun W pn xe tk _ => by exact pss_one (ps_set (i := 1) scTrying.nd rfl (.inl rfl) (pe_methW (pv 0) T.cl hL GL hr bL (fun σ => passAt tk σ) (pa_cons pe_str pa_nil))))
        (fun a oe cls d pn hz hf => by exact pss_one (ps_set (i := 1) scTrying.nd rfl (.inl rfl) (pe_tup (pa_cons pe_str (pa_cons (pe_xf XN hno hz hf (pv 2)) pa_nil))))))
      (pss_cons (ps_expr (pe_meth (pv 0) T.cl hY GY hr4 bY .nil px (pa_cons (pv 1) pa_nil)))
      (pss_one (ps_ret (pe_fld (pv 0) rfl)))), ?_⟩
    have nsay : ∀ (h : HS), h.fs.lookup ("say" : Str) = none := fun h => hF_no (by decide +kernel) (by decide +kernel) (by decide +kernel) (by decide +kernel) (by decide +kernel) (by decide +kernel) (by decide +kernel) (by decide +kernel) (by decide +kernel)
    have nlook : ∀ (h : HS), h.fs.lookup ("look" : Str) = none := fun h => hF_no (by decide +kernel) (by decide +kernel) (by decide +kernel) (by decide +kernel) (by decide +kernel) (by decide +kernel) (by decide +kernel) (by decide +kernel) (by decide +kernel)
    refine ⟨_, rfl, hd, dx, _, rfl, hA.ob, nlook _, ?_⟩
    refine ⟨hd, dx, _, S, .str "x", decide (("x" : Str) ∈ S.cellN), [], [], rfl, rfl, hA, hS.same (hB3.same fun _ _ _ _ _ e => e), Nat.zero_le _, by show ans.length ≤ 1000; omega, .inl ⟨_, rfl, rfl⟩, rfl, fun i r c e => (nomatch e), fun H4 s4 => ⟨fun z => (nomatch z), fun _ no d hd' => ?_, fun _ _ i r e => (nomatch e), fun _ yes _ => ⟨fun v hv => ?_, fun t ht e => ?_⟩⟩⟩
    · -- no such thing
      have nx : ("x" : Str) ∉ S.cellN := of_decide_eq_false no
      refine ⟨true, eN, fun _ a ha => ?_, fun z => (nomatch z)⟩
      refine ⟨_, rfl, rfl, rfl, d, [("name", .str "x")], .str "x", rfl, upd_same, rfl, two_sz, fun u hu => ?_⟩
      have s5 := s4.trans ((same_new (o := .xd [("name", .str "x")]) hd').trans (same_new (o := .tup [.str "none", .str "x"]) hu))
      have U : SqT K (upd (upd H4 d (.xd [("name", .str "x")])) u (.tup [.str "none", .str "x"])) u [.str "none", .str "x"] := SqT.of upd_same
      generalize upd (upd H4 d (.xd [("name", .str "x")])) u (.tup [.str "none", .str "x"]) = G at *
      have A5 := hA.same s5
      have vp : Vn K G n (.ref u) true := by
        obtain ⟨n', rfl⟩ : ∃ n', n = n' + 1 := ⟨n - 1, by omega⟩
        refine .tup (bs := [true, true]) U rfl (by show 2 ≤ 1000; decide) fun i x c e1 e2 => ?_
        match i, e1, e2 with
        | 0, e1, e2 =>
          cases e1
          cases e2
          exact .str _ _
        | 1, e1, e2 =>
          cases e1
          cases e2
          exact .str _ _
      refine ⟨_, rfl, hd, dx, _, rfl, A5.ob, nsay _, ?_⟩
      refine ⟨_, rfl, hd, dx, _, .ref u, true, rfl, A5, (by show 0 ≤ 1000; decide), vp, fun z => (nomatch z), fun H7 s7 => ⟨fun _ z => (nomatch z), fun _ _ => ?_⟩⟩
      have A8 := (A5.same s7).say (ws := [] ++ [.ref u])
      have k8 : Keep3 hd md wl H (upd H7 wl (.lst ([] ++ [.ref u]))) := fun c o e1 e2 e3 e => by
        rw [upd_ne e3]
        exact s7 _ _ (s5 _ _ e)
      have U8 : SqT K (upd H7 wl (.lst ([] ++ [.ref u]))) u [.str "none", .str "x"] := sqT_but (A5.same s7).w (fun _ z => (nomatch z)) (fun _ _ z => (nomatch z)) But.put (seqT_same s7 U)
      exact ⟨_, rfl, hd, C, dx, _, _, rfl, A8.ob, T.cl, T.me, hF_get0, kQ _ _ (.ref u) A8 k8 rfl rfl rfl (.inr ⟨nx, noX nx, u, rfl, U8⟩)⟩
    · have hx : ("x" : Str) ∈ S.cellN := of_decide_eq_true yes
      have hv : ans[0]? = some v := hv
      have ea : ans = [v] := by
        match ans, hv, few with
        | [a], hv, _ =>
          cases hv
          rfl
        | a :: b :: l, hv, few =>
          rw [List.length_cons, List.length_cons] at few
          omega
      have fb := fl v (List.mem_of_getElem? hv)
      have A5 := (hA.same s4).set (h' := { hs0 me sh an ans md wl with asked := 0 + 1 }) ⟨rfl, rfl, rfl, rfl, rfl, rfl⟩
      have k5 : Keep3 hd md wl H (upd H4 hd (.ins C dx { hs0 me sh an ans md wl with asked := 0 + 1 }.fs)) := fun c o e1 e2 e3 e => by
        rw [upd_ne e1]
        exact s4 _ _ e
      refine ⟨_, rfl, hd, dx, _, rfl, A5.ob, nsay _, ?_⟩
      refine ⟨_, rfl, hd, dx, _, v, true, rfl, A5, (by show 0 ≤ 1000; decide), fb.vn, fun z => (nomatch z), fun H7 s7 => ⟨fun _ z => (nomatch z), fun _ _ => ?_⟩⟩
      have A8 := (A5.same s7).say (ws := [] ++ [v])
      have k8 : Keep3 hd md wl H (upd H7 wl (.lst ([] ++ [v]))) := fun c o e1 e2 e3 e => by
        rw [upd_ne e3]
        exact s7 _ _ (k5 c o e1 e2 e3 e)
      exact ⟨_, rfl, hd, C, dx, _, _, rfl, A8.ob, T.cl, T.me, hF_get0, kQ _ _ v A8 k8 rfl rfl rfl (.inl ⟨hx, ea⟩)⟩
    · have hx : ("x" : Str) ∈ S.cellN := of_decide_eq_true yes
      have e : 0 = ans.length := e
      have A4 := (hA.same s4).set (h' := { hs0 me sh an ans md wl with pend := .ref t, halted := true }) ⟨rfl, rfl, rfl, rfl, rfl, rfl⟩
      refine ⟨false, eH, fun z => (nomatch z), fun _ => ?_⟩
      refine kE _ _ t A4 (fun c o e1 e2 e3 q => ?_) rfl hx (List.eq_nil_of_length_eq_zero e.symm) rfl rfl rfl (SqT.of ((upd_ne (ne_of ht (hA.same s4).ob (by intro z; cases z))).trans ht))
      rw [upd_ne e1]
      exact s4 _ _ q
end
end TW
namespace TW
open PySem PySem.Spec PyProof.Rows L2
/-- the things that a shop has where none are handed in -/
def shopKw (t0 : Addr) : List (Str × V) := [("cells", .non), ("locks", .ref t0), ("belts", .non), ("longest", .int 24), ("most", .int 400)]
abbrev psSI : List Str := ["self", "works", "cells", "locks", "belts", "longest", "most"]
abbrev FunSI (K : PySem.W.Frag) (t0 f : Addr) (fd : FuncData) : Prop := FunD K "__init__" "Shop.__init__" (defArgs sSI) (defBody sSI) (defScope sSI) [] (shopKw t0) f fd
section
variable {K : PySem.W.Frag} {t0 f : Addr} {fd : FuncData}
theorem kb_cells (F : FunSI K t0 f fd) : ∃ mv : List Value, KBn K fd psSI 2 ["cells"] (fun us ws => us ++ (ws ++ mv)) (fun vs zs => vs ++ (zs ++ [.ref t0, .non, .int 24, .int 400])) :=
  F.kbinds0 2 ["cells"] [("locks", .ref t0), ("belts", .non), ("longest", .int 24), ("most", .int 400)] (fun us mv ws => us ++ (ws ++ mv)) (by unfold shopKw; exact List.cons_ne_nil _ _) (fun q h => List.mem_cons_of_mem _ h) (fun a b c => a.append (c.append b))
    fun D doc pm an cdv ct us mv ws h1 h2 h3 => match us, mv, ws, h1, h2, h3 with
      | [_, _], [_, _, _, _], [_], _, _, _ => ⟨_, _, _, _, _, _, rfl, rfl, _, _, _, _, _, _, rfl, rfl, _, _, _, _, _, _, rfl, rfl, _, _, _, _, _, _, rfl, rfl, rfl⟩
theorem kb_locks (F : FunSI K t0 f fd) : ∃ mv : List Value, KBn K fd psSI 2 ["locks"] (fun us ws => us ++ (mv.take 1 ++ (ws ++ mv.drop 1))) (fun vs zs => vs ++ ([.non] ++ (zs ++ [.non, .int 24, .int 400]))) :=
  F.kbinds0 2 ["locks"] [("cells", .non), ("belts", .non), ("longest", .int 24), ("most", .int 400)] (fun us mv ws => us ++ (mv.take 1 ++ (ws ++ mv.drop 1))) (by unfold shopKw; exact List.cons_ne_nil _ _) (fun q h => by
      unfold shopKw
      rcases List.mem_cons.mp h with e | h
      · rw [e]; exact List.mem_cons_self ..
      · exact List.mem_cons_of_mem _ (List.mem_cons_of_mem _ h)) (fun a b c => a.append ((b.take 1).append (c.append (b.drop 1))))
    fun D doc pm an cdv ct us mv ws h1 h2 h3 => match us, mv, ws, h1, h2, h3 with
      | [_, _], [_, _, _, _], [_], _, _, _ => ⟨_, _, _, _, _, _, rfl, rfl, _, _, _, _, _, _, rfl, rfl, _, _, _, _, _, _, rfl, rfl, _, _, _, _, _, _, rfl, rfl, rfl⟩
theorem kb_none (F : FunSI K t0 f fd) : ∃ ds, Vals [.non, .ref t0, .non, .int 24, .int 400] ds ∧ Binds K fd psSI ds :=
  F.binds0 2 (by unfold shopKw; exact List.cons_ne_nil _ _) rfl fun D doc pm an cdv ct us ks h1 h2 => match us, ks, h1, h2 with
    | [_, _], [_, _, _, _, _], _, _ => ⟨_, _, _, _, _, _, rfl, rfl, _, _, _, _, _, _, rfl, rfl, _, _, _, _, _, _, rfl, rfl, _, _, _, _, _, _, rfl, rfl, _, _, _, _, _, _, rfl, rfl, rfl⟩
end
end TW
namespace TW
open PySem PySem.Spec PyProof.Rows L2
theorem place_put {K : PySem.W.Frag} {CP D : Addr} {H : Hp} {x : PS} {xs ys : List V} (hD : H D = some (.lst xs)) (A : PlaceAt K CP H x) : PlaceAt K CP (upd H D (.lst ys)) x :=
  ⟨(upd_ne (ne_of A.ob hD (by intro z; cases z))).trans A.ob, sqT_but hD (fun _ z => (nomatch z)) (fun _ _ z => (nomatch z)) But.put A.a, sqT_but hD (fun _ z => (nomatch z)) (fun _ _ z => (nomatch z)) But.put A.w⟩
theorem tk_lst {K : PySem.W.Frag} {D : Addr} {H : Hp} {xs ys : List V} (hD : H D = some (.lst xs)) : TK K H (upd H D (.lst ys)) := fun _ _ q => sqT_but hD (fun _ z => (nomatch z)) (fun _ _ z => (nomatch z)) But.put q
theorem tF_shop {C1 d1 C2 d2 : Addr} {a b c d e : V} {fs : List (Str × V)} : HO.ins C1 d1 (tF a b c d) ≠ HO.ins C2 d2 (("shop", e) :: fs) := by
  intro z
  injection z with z1 z2 z3
  unfold tF at z3
  injection z3 with z4 z5
  injection z4 with z6 z7
  exact absurd z6 (by decide +kernel)
theorem pF_shop {C1 d1 C2 d2 : Addr} {a b c d e : V} {fs : List (Str × V)} : HO.ins C1 d1 (pF a b c d) ≠ HO.ins C2 d2 (("shop", e) :: fs) := by
  intro z
  injection z with z1 z2 z3
  unfold pF at z3
  injection z3 with z4 z5
  injection z4 with z6 z7
  exact absurd z6 (by decide +kernel)
section
variable {P : Program} {w : World} {K : PySem.W.Frag} {mg : Str → Option Value} {base : Heap} {C CS CP CH CV CR CT : Addr} {kw n : Nat}
theorem ri_use {S : SS} {m : Nat} (Bs : Nat → Beh) (Ad : Nat → List V → Prop) (gs : Nat → Addr) (hx : PySem.W.exmOne K (.ref CH) (.ref CH) = some true) (hB : ∀ i, i < m → BehS K (Bs i)) (hA : ∀ i, i < m → Ad i []) (hw : ∀ i, i < m → S.works[i]? = some (.ref (gs i)))
    (Wk : ∀ i, i < m → WorkOk P w K mg base C CS CH kw n S (gs i) i (Ad i) (Bs i)) {H : Hp} {r dx sh : Addr} (ho : H r = some (.ins CR dx [])) (hS : ShopAt K CS H sh S) (hm : S.many = (m : Int)) (few : m ≤ 1000) (n1 : S.locks.Nodup) (n2 : S.beltN.Nodup) (l1 : S.locks.length ≤ 1000) (l2 : S.belts.length ≤ 1000) {Q : VK} {E : XK}
    (k : ∀ (R : RS) (H' : Hp), But r H H' → RunI K CR CT CP H' r R → R.sh = sh → R.T.cells = S.cells → R.T.holders = S.locks.map (fun s => (Sum.inr s, V.non)) → R.T.rows.map (·.1) = S.beltN.map Sum.inr → (∀ p ∈ R.T.rows, ∃ a, p.2 = .ref a ∧ SqT K H' a []) → R.T.sizes = S.belts → R.places.length = m →
      (∀ j x, R.places[j]? = some x → x.ans = [] ∧ Bs j H' [] x.pend x.fin x.words) → R.done = [] → H R.pl = none → H R.dn = none → Q .non H') :
    spRI K CR CS CT (spCome P w K mg base C CS CP CH CV kw n) [.ref r, .ref sh] H Q E := by
  have hsr : sh ≠ r := ne_of hS.ob ho (by
    intro z
    injection z with z1 z2 z3
    unfold sF at z3
    cases z3)
  refine ⟨r, dx, sh, S, m, rfl, ho, hm, few, ?_⟩
  have b0 : But r H (upd H r (.ins CR dx [("shop", .ref sh)])) := .put
  have sB : ∀ {G G' : Hp}, But r G G' → (∃ fs, G r = some (.ins CR dx fs)) → ShopAt K CS G sh S → ShopAt K CS G' sh S := fun {G G'} b ⟨fs, e⟩ A =>
    ⟨b _ _ hsr A.ob, sqT_but e ins_ntup.1 ins_ntup.2 b A.w, b _ _ (ne_of A.c e (by intro z; cases z)) A.c, A.cn, sqT_but e ins_ntup.1 ins_ntup.2 b A.l, b _ _ (ne_of A.b e (by intro z; cases z)) A.b, A.bn⟩
  have S0 := sB b0 ⟨_, ho⟩ hS
  refine ⟨sh, S, rfl, S0, n1, n2, l1, l2, fun t2 tdx cd hd rd rows G f1 f2 f3 f4 sG hT hk hr => ?_⟩
  have or : G r = some (.ins CR dx [("shop", .ref sh)]) := sG _ _ upd_same
  refine ⟨or, S0.same sG, hsr, fun D hD => ?_⟩
  have b1 : But r H G := b0.trans (But.of sG)
  refine ⟨fun i H1 acc => ∃ ps : List PS, acc = ps.map (fun x => V.ref x.p) ∧ ps.length = i ∧ (∀ j x, ps[j]? = some x → PlaceAt K CP H1 x ∧ x.ans = [] ∧ Bs j H1 [] x.pend x.fin x.words) ∧ (∀ b o, b ≠ r → b ≠ D → G b = some o → H1 b = some o) ∧ H1 r = some (.ins CR dx [("shop", .ref sh), ("things", .ref t2)]) ∧ H1 D = some (.lst acc) ∧ D ≠ r, ?_, ?_, ?_⟩
  · have e : D ≠ r := fun e => by
      rw [e, upd_same] at hD
      cases hD
    exact ⟨[], rfl, rfl, fun j x z => (nomatch z), fun b o e1 e2 z => by rw [upd_ne e2, upd_ne e1]; exact z, (upd_ne (Ne.symm e)).trans upd_same, upd_same, e⟩
  · rintro i H1 acc hi ⟨ps, rfl, hl, each, f, hr1, hd1, dr⟩ _ t ht
    have gD : G D = none := by
      rw [upd_ne dr] at hD
      exact hD
    have bG : But r G H1 := fun b o e1 e => f b o e1 (ne_of_none e gD) e
    have st := same_new (o := .tup []) ht
    have S1 := (sB bG ⟨_, or⟩ (S0.same sG)).same st
    refine come_use (hB i hi) hx (Wk i hi) S1 (SqT.of upd_same) (hw i hi) (hA i hi) fun pl dp tw pend fin words H2 s5 hpl o4 w4 b4 => ?_
    have sm := st.trans s5
    have hd2 := sm _ _ hd1
    refine ⟨hd2, ps ++ [⟨pl, dp, t, [], pend, fin, tw, words⟩], by rw [List.map_append]; rfl, by rw [List.length_append, hl]; rfl, fun j x e => ?_, fun b o e1 e2 e => by rw [upd_ne e2]; exact sm _ _ (f b o e1 e2 e), (upd_ne (Ne.symm dr)).trans (sm _ _ hr1), upd_same, dr⟩
    by_cases c : j < ps.length
    · rw [List.getElem?_append_left c] at e
      obtain ⟨q1, q2, q3⟩ := each j x e
      exact ⟨place_put hd2 (q1.same sm), q2, hB j (Nat.lt_trans (hl ▸ c) hi) _ _ _ _ _ _ ((TK.of sm).trans (tk_lst hd2)) q3⟩
    · have z := (List.getElem?_eq_some_iff.mp e).1
      rw [List.length_append] at z
      have ej : j = ps.length := by
        have : j < ps.length + 1 := z
        omega
      rw [ej, List.getElem?_append_right (Nat.le_refl _), Nat.sub_self] at e
      obtain rfl := (Option.some.inj (show some _ = some x from e)).symm
      rw [ej, hl]
      exact ⟨place_put hd2 ⟨o4, seqT_same s5 (SqT.of upd_same), w4⟩, rfl, hB i hi _ _ _ _ _ _ (tk_lst hd2) b4⟩
  · rintro H1 acc hl ⟨ps, rfl, hl2, each, f, hr1, hd1, dr⟩ _
    refine ⟨hr1, fun l hlf => ?_⟩
    have gD : G D = none := by
      rw [upd_ne dr] at hD
      exact hD
    have fr := upd_free hlf
    have ld : l ≠ D := fun e => by
      rw [e, hd1] at fr
      cases fr.2
    have fin : ∀ b o, b ≠ r → H1 b = some o → (upd (upd (upd H1 r (.ins CR dx [("shop", .ref sh), ("things", .ref t2), ("places", .ref D)])) l (.lst [])) r (.ins CR dx (rF (.ref sh) (.ref t2) (.ref D) (.ref l)))) b = some o := fun b o e1 e => by
      rw [upd_ne e1, upd_ne (fun z => by rw [z, fr.2] at e; cases e), upd_ne e1]
      exact e
    have g1 : ∀ b o, b ≠ r → G b = some o → H1 b = some o := fun b o e1 e => f b o e1 (ne_of_none e gD) e
    have tk : TK K H1 (upd (upd (upd H1 r (.ins CR dx [("shop", .ref sh), ("things", .ref t2), ("places", .ref D)])) l (.lst [])) r (.ins CR dx (rF (.ref sh) (.ref t2) (.ref D) (.ref l)))) := fun a xs q => sqT_but hr1 ins_ntup.1 ins_ntup.2 fin q
    refine k ⟨dx, sh, t2, D, l, ⟨tdx, cd, S.cells, hd, S.locks.map (fun s => (Sum.inr s, V.non)), rd, rows, S.bd, S.belts⟩, ps, []⟩ _ (fun b o e1 e => fin b o e1 (g1 b o e1 (b1 b o e1 e))) ⟨⟨upd_same, ⟨?_, ?_, ?_, ?_, ?_⟩, fin _ _ dr hd1, fun x hx => ?_, ?_⟩, ld⟩ rfl rfl rfl hk (fun p hp => ?_) rfl (hl2) (fun j x e => ?_) rfl ?_ ?_
    · exact fin _ _ (ne_of hT.ob or tF_shop) (g1 _ _ (ne_of hT.ob or tF_shop) hT.ob)
    · exact fin _ _ (ne_of hT.c or (by intro z; cases z)) (g1 _ _ (ne_of hT.c or (by intro z; cases z)) hT.c)
    · exact fin _ _ (ne_of hT.h or (by intro z; cases z)) (g1 _ _ (ne_of hT.h or (by intro z; cases z)) hT.h)
    · exact fin _ _ (ne_of hT.r or (by intro z; cases z)) (g1 _ _ (ne_of hT.r or (by intro z; cases z)) hT.r)
    · exact fin _ _ (ne_of hT.s or (by intro z; cases z)) (g1 _ _ (ne_of hT.s or (by intro z; cases z)) hT.s)
    · obtain ⟨j, hj, e⟩ := List.mem_iff_getElem.mp hx
      have q := (each j x (by rw [List.getElem?_eq_getElem hj, e])).1
      exact ⟨fin _ _ (ne_of q.ob hr1 pF_shop) q.ob, tk _ _ q.a, tk _ _ q.w⟩
    · exact (upd_ne fr.1).trans upd_same
    · obtain ⟨a, e1, e2⟩ := hr p hp
      exact ⟨a, e1, tk _ _ (sqT_but or ins_ntup.1 ins_ntup.2 g1 e2)⟩
    · obtain ⟨_, q2, q3⟩ := each j x e
      have hj : j < m := hl2 ▸ (List.getElem?_eq_some_iff.mp e).1
      exact ⟨q2, hB j hj _ _ _ _ _ _ tk q3⟩
    · show H D = none
      cases e : H D with
      | none => rfl
      | some o =>
        rw [b1 _ _ dr e] at gD
        cases gD
    · show H l = none
      cases e : H l with
      | none => rfl
      | some o =>
        rw [f _ _ fr.1 ld (b1 _ _ fr.1 e)] at fr
        cases fr.2
end
end TW
namespace TW
open PySem PySem.Spec PyProof.Rows L2
section
variable {P : Program} {w : World} {K : PySem.W.Frag} {mg : Str → Option Value} {base : Heap} {C CS CH CN CV : Addr} {n : Nat}
abbrev AdTry (S : SS) : List V → Prop := fun ans => ans.length ≤ 1 ∧ (("x" : Str) ∉ S.cellN → ans = []) ∧ ∀ a ∈ ans, FlatB a
theorem work_try {S : SS} {g me : Nat} {fd : FuncData} (G : FnOk P w K mg base (L2.CX P w) (n + 6) g fd ["_law_hand"] (spTry K C CS CH)) (b : Binds K fd ["_law_hand"] []) (hA : PySem.W.FnAt g base) :
    WorkOk P w K mg base C CS CH (n + 6) n S g me (AdTry S) (BTry K (decide (("x" : Str) ∈ S.cellN)) (me : Nat)) := by
  refine ⟨_, fnR_of G b, hA, fun sh an ans hd dx md wl H0 G0 hS hB3 ⟨a1, a2, a3⟩ hG => ⟨_, _, ⟨hd, dx, md, wl, sh, an, (me : Nat), ans, S, H0, rfl, hG, hS, hB3, a1, a2, a3, ?_, ?_⟩, fun _ _ q => q, fun _ _ _ e => e⟩⟩
  · exact fun H2 h2 t A k3 ht hx ea ef ew ep hp => ⟨rfl, h2, A, k3, ht, .inl ⟨decide_eq_true hx, ea, ef, ew, t, ep, hp⟩⟩
  · refine fun H2 h2 x A k3 hf ep ew hc => ⟨h2, A, k3, .inr ⟨hf, .int _ _, fun H3 t s3 ht => ?_⟩⟩
    rcases hc with ⟨hx, ea⟩ | ⟨hx, ea, u, rfl, hu⟩
    · exact .inr (.inl ⟨decide_eq_true hx, ep, x, t, ea, ew, rfl, SqT.of ht⟩)
    · exact .inr (.inr ⟨decide_eq_false hx, ea, ep, t, u, rfl, SqT.of ht, ew, seqT_same s3 hu⟩)
theorem rd_same {H H' : Hp} {a : Addr} {u : HO} (e : Same H H') (h : Rd H a u) : Rd H' a u := by
  rcases h with h | ⟨o, h⟩
  · exact .inl (e _ _ h)
  · exact .inr ⟨o, e _ _ h⟩
theorem Good.same {H H' : Hp} {S : SIn} {wv cv lv bv : V} (e : Same H H') (Z : Good K H n S wv cv lv bv) : Good K H' n S wv cv lv bv :=
  { Z with
    w := by
      obtain ⟨a, e1, h⟩ := Z.w
      exact ⟨a, e1, h.imp (fun z => e.seq z) (fun z => seqT_same e z)⟩
    c := Z.c.imp (fun z => z) (fun ⟨a, e1, h⟩ => ⟨a, e1, rd_same e h⟩)
    l := by
      obtain ⟨a, e1, h⟩ := Z.l
      exact ⟨a, e1, h.imp (fun z => e.seq z) (fun z => seqT_same e z)⟩
    b := Z.b.imp (fun z => z) (fun ⟨a, e1, h⟩ => ⟨a, e1, rd_same e h⟩)
    cv := fun kv h H2 tk => Z.cv kv h H2 fun a xs q => tk a xs (seqT_same e q) }
/-- a shop made of what is handed in -/
theorem make_shop {H2 : Hp} {S : SIn} {wv cv lv bv : V} {Q : VK} {E : XK} (Z : Good K H2 n S wv cv lv bv)
    (k : ∀ (x dx wt cd lt bd : Addr) (G : Hp), H2 x = none → Same H2 G → ShopAt K CS G x (S.ss dx wt cd lt bd) → Q (.ref x) G) :
    ∀ x dx, H2 x = none → H2 dx = none → dx ≠ x → spSI K CS n (.ref x :: [wv, cv, lv, bv, .int S.lo, .int S.mo]) (upd (upd H2 dx (.own x)) x (.ins CS dx [])) (fun v H3 => v = .non ∧ Q (.ref x) H3) E := by
  intro x dx h1 h2 ne
  have s1 : Same H2 (upd (upd H2 dx (.own x)) x (.ins CS dx [])) := fun b o e => by
    rw [upd_ne (ne_of_none e h1), upd_ne (ne_of_none e h2)]
    exact e
  refine ⟨x, dx, S, wv, cv, lv, bv, rfl, upd_same, Z.same s1, fun wt cd lt bd G f A => ⟨rfl, k x dx wt cd lt bd G h1 (fun b o e => f b o (ne_of_none e h1) (s1 b o e)) A⟩⟩
/-- one of the law's kinds of shops, with what its run says -/
def KindOk (K : PySem.W.Frag) (CS g : Addr) (H : Hp) (t : Addr) : Prop := ∃ (sh : Addr) (S : SS) (d : V), SqT K H t [.ref sh, d] ∧ ShopAt K CS H sh S ∧ S.works = [.ref g] ∧ S.many = 1 ∧ S.locks.Nodup ∧ S.beltN = [] ∧ S.locks.length ≤ 1000 ∧ S.belts = [] ∧
  ((("x" : Str) ∈ S.cellN ∧ S.cells = [(Sum.inr ("x" : Str), d)] ∧ S.locks = [] ∧ FlatB d) ∨ (("x" : Str) ∉ S.cellN ∧ ∃ u, d = .ref u ∧ SqT K H u [.str "none", .str "x"]))
theorem shop_tk {H H' : Hp} {sh : Addr} {S : SS} {Bad : Addr → Prop} (hb : ∀ b o, ¬ Bad b → H b = some o → H' b = some o) (n1 : ∀ b, Bad b → ∀ fs, H b ≠ some (.ins CS S.dx (("works", .ref S.wt) :: fs))) (n2 : ∀ b, Bad b → ∀ kvs, H b ≠ some (.dK kvs)) (tk : TK K H H') (A : ShopAt K CS H sh S) : ShopAt K CS H' sh S :=
  ⟨hb _ _ (fun z => n1 _ z _ A.ob) A.ob, tk _ _ A.w, hb _ _ (fun z => n2 _ z _ A.c) A.c, A.cn, tk _ _ A.l, hb _ _ (fun z => n2 _ z _ A.b) A.b, A.bn⟩
theorem KindOk.keep {CS g : Addr} {H H' : Hp} {t : Addr} (tk : TK K H H') (sk : ∀ sh S, ShopAt K CS H sh S → ShopAt K CS H' sh S) (h : KindOk K CS g H t) : KindOk K CS g H' t := by
  obtain ⟨sh, S, d, h1, h2, h3, h4, h5, h6, h7, h8, h9⟩ := h
  refine ⟨sh, S, d, tk _ _ h1, sk _ _ h2, h3, h4, h5, h6, h7, h8, h9.imp (fun z => z) (fun ⟨z, u, e, q⟩ => ⟨z, u, e, tk _ _ q⟩)⟩
theorem KindOk.same {CS g : Addr} {H H' : Hp} {t : Addr} (e : Same H H') (h : KindOk K CS g H t) : KindOk K CS g H' t := h.keep (.of e) fun _ _ A => A.same e
end
end TW
namespace L2
open PySem PySem.Spec PyProof.Rows LamX
/-- a lambda that has captured cl stands at f, its code object at c' -/
def CloV (f c' : Addr) (q : Str) (params : Arguments) (body : Expr) (scope : Scope) (cl : List (Str × Addr)) : HO := .ext fun h => ∃ pm ctv : Value, h.get? f = some (PySem.W.kla_obj "<lambda>" q params body scope cl pm c' ctv)
theorem cloV_ok {P : Program} {w : World} {H : Hp} {h : Heap} {f c' : Addr} {q : Str} {params : Arguments} {body : Expr} {scope : Scope} {cl : List (Str × Addr)} {pm ctv : Value} (e : h.get? f = some (PySem.W.kla_obj "<lambda>" q params body scope cl pm c' ctv)) : ObjOk P w H h f (CloV f c' q params body scope cl) :=
  ⟨⟨pm, ctv, e⟩, ⟨_, e⟩, fun _ _ ⟨a, b, z⟩ k => ⟨a, b, k _ z⟩⟩
section
variable {X : Cx} {pins : List (Addr × Obj)} {σ : L2.St} {H : Hp} {s : Shared}
/-- a lambda with captured names is made, and tracked -/
theorem cloV_laid {T : List (Addr × Str)} {c P : Addr} {params : Arguments} {body : Expr} {scope : Scope} {pos : Pos} {E : Value → Shared → Prop} {Q : Value → Shared → Prop} (I : Inv X pins σ H s) (TB : TabB X.base X.mg c P) (hcode : X.env.code = .ref c)
    (hm : (P, X.env.qual ++ "<lambda>") ∈ T) (hu : ∀ p ∈ T, p.1 = P → p.2 = X.env.qual ++ "<lambda>") (hT : Tabs T H) (hdef : defaultsOf params X.env = ([], [])) (hfr : ∀ y ∈ scope.names, y.2 = .free → ∃ c, X.env.cells.lookup y.1 = some c)
    (h : ∀ (f c' : Addr) (H1 : Hp) (s' : Shared), Inv X pins σ (upd H1 f (CloV f c' (X.env.qual ++ "<lambda>") params body scope (cloFrom X.env.cells scope.names []))) s' → ExtN H H1 → Tabs T H1 → H1 f = none → H1 c' = some (CodeO c' (X.env.qual ++ "<lambda>")) → Q (.ref f) s') :
    wpAny (model X.prog X.w) X.A (eval (.Lambda params body scope pos) X.env) Q E s := by
  obtain ⟨ps, hP, ht, ha⟩ := hT _ hm
  have okc : closureFor scope X.env = pure (cloFrom X.env.cells scope.names []) := closure_ok hfr
  refine PySem.W.kla_eval hdef ?_
  have bP : s.heap.BuiltinsAt X.mg P := TB.bm.keeps I.bk
  have hP' : s.heap.get? P = some { cls := .none, data := .fields ps } := I.hok P _ hP
  have lay : ∀ {H1 : Hp} {h' : Heap} {c' : Addr} {pm ctv : Value} {tk : Nat}, Inv X pins σ H1 { s with heap := h', toks := tk } →
      Inv X pins σ (upd H1 h'.objs.size (CloV h'.objs.size c' (X.env.qual ++ "<lambda>") params body scope (cloFrom X.env.cells scope.names []))) { s with heap := h'.push (PySem.W.kla_obj "<lambda>" (X.env.qual ++ "<lambda>") params body scope (cloFrom X.env.cells scope.names []) pm c' ctv), toks := tk } := fun {H1 h' c' pm ctv tk} J =>
    J.laid (t' := tk) (a := h'.objs.size) (h' := h'.push (PySem.W.kla_obj "<lambda>" (X.env.qual ++ "<lambda>") params body scope (cloFrom X.env.cells scope.names []) pm c' ctv)) (fun b o e => Heap.get?_push_of_some _ e) (Nat.le_refl _) (cloV_ok (Heap.get?_push_size _ rfl))
  cases hc : codeAmong pos ps.toList with
  | none =>
    refine PySem.W.kla_makeFunction (mg := X.mg) (c := c) (P := P) (ps := ps) okc I.ok.glob (I.mod.glob.keeps I.bk) hcode (TB.code.keeps I.bk) hP' ht hc TB.gP bP fun c' ctv h' tk hx hge hlt hrec htb => ?_
    obtain ⟨c2, oc, vs, t, e2, hoc, hd, hv⟩ := hrec
    cases e2
    have nC : H c' = none := I.hok.fresh hge
    have I1 := inv_table (q := X.env.qual ++ "<lambda>") (t' := tk) (more := #[rawInt pos.line, rawInt pos.col, .ref c']) (h' := h') I hP hx htb hge ⟨oc, vs, t, hoc, hd, hv⟩
    have hE : ExtN H (upd (upd H P (.tbl (ps ++ #[rawInt pos.line, rawInt pos.col, .ref c']))) c' (CodeO c' (X.env.qual ++ "<lambda>"))) := fun b o e n => by
      rw [upd_ne (ne_of_none e nC), upd_ne (fun z => n ps (Option.some.inj (e.symm.trans (by rw [z]; exact hP))))]
      exact e
    have eL : (ps ++ #[rawInt pos.line, rawInt pos.col, .ref c']).toList = ps.toList ++ [rawInt pos.line, rawInt pos.col, .ref c'] := by simp
    refine h h'.objs.size c' _ _ (lay I1) hE (fun p hp => ?_) ?_ upd_same
    · by_cases hb : p.1 = P
      · rw [hu p hp hb, hb]
        refine ⟨_, by rw [upd_ne (ne_of_none hP nC), upd_same], by rw [eL]; exact PySem.TriplesOk_snoc _ _ _ _ ht, fun p' cv hcv => ?_⟩
        rw [eL] at hcv
        rcases among_app _ ht hcv with z | z
        · obtain ⟨c0, e1, e2⟩ := ha p' cv z
          exact ⟨c0, e1, hE _ _ e2 codeO_ne⟩
        · exact ⟨c', z, upd_same⟩
      · obtain ⟨ps', a1, a2, a3⟩ := hT p hp
        refine ⟨ps', by rw [upd_ne (ne_of_none a1 nC), upd_ne hb]; exact a1, a2, fun p' cv hcv => ?_⟩
        obtain ⟨c0, e1, e2⟩ := a3 p' cv hcv
        exact ⟨c0, e1, hE _ _ e2 codeO_ne⟩
    · have z := I1.hok.fresh (Nat.le_refl h'.objs.size)
      exact z
  | some cv =>
    obtain ⟨c', e, hco⟩ := ha pos cv hc
    subst e
    refine PySem.W.kla_makeFunctionHit (mg := X.mg) (c := c) (P := P) (ps := ps) okc I.ok.glob (I.mod.glob.keeps I.bk) hcode (TB.code.keeps I.bk) hP' ht hc bP fun ctv h' tk hx hsz => ?_
    have I1 : Inv X pins σ H { s with heap := h', toks := tk } := I.kept fun b o e => hx b o e
    exact h h'.objs.size c' H _ (lay I1) (ExtN.refl H) hT (I1.hok.fresh (Nat.le_refl h'.objs.size)) hco
/-- lambda ..: .. as a value, with what it has captured -/
theorem pe_cloV {T : List (Addr × Str)} {c P : Addr} {params : Arguments} {body : Expr} {scope : Scope} {pos : Pos} (TB : TabB X.base X.mg c P) (hcode : X.env.code = .ref c)
    (hm : (P, X.env.qual ++ "<lambda>") ∈ T) (hu : ∀ p ∈ T, p.1 = P → p.2 = X.env.qual ++ "<lambda>") (hfr : ∀ y ∈ scope.names, y.2 = .free → ∃ c, X.env.cells.lookup y.1 = some c) (hdef : defaultsOf params X.env = ([], []) := by rfl) :
    PE X (.Lambda params body scope pos) (fun σ H Q => Tabs T H ∧ ∀ f c' H1, ExtN H H1 → Tabs T H1 → H1 f = none → H1 c' = some (CodeO c' (X.env.qual ++ "<lambda>")) → Q (.ref f) (upd H1 f (CloV f c' (X.env.qual ++ "<lambda>") params body scope (cloFrom X.env.cells scope.names [])))) :=
  ⟨fun pins s σ H Q I h => cloV_laid I TB hcode hm hu h.1 hdef hfr fun f c' H1 s' J e1 e2 e3 e4 => ⟨.ref f, _, J, rfl, h.2 f c' H1 e1 e2 e3 e4⟩⟩
end
/-- such a lambda of one parameter, over a base that knows it, its code and its cells -/
theorem cloAt_of {X : Cx} {σ : L2.St} {H : Hp} {L : List Addr} {B : Heap} (kb : Known X σ H L B) {f c' : Addr} {q y : Str} {params : Arguments} {body : Expr} {scope : Scope} {xs : List Str} {vs : List V}
    (hf : H f = some (CloV f c' q params body scope (cloFrom X.env.cells scope.names []))) (hc : H c' = some (CodeO c' q)) (mf : f ∈ L) (mc : c' ∈ L) (kind : scope.kind = .function) (co : scope.isCoroutine = false) (gen : scope.isGenerator = false)
    (own : ∀ z ∈ scope.names, z.2 ≠ .cell) (par : scope.names.lookup y = some .local) (hfr : ∀ z ∈ scope.names, z.2 = .free → ∃ c, X.env.cells.lookup z.1 = some c) (inj : ∀ x z c, X.env.cells.lookup x = some c → X.env.cells.lookup z = some c → x = z)
    (caps : ∀ (i : Nat) (x : Str) (v : V), xs[i]? = some x → vs[i]? = some v → scope.names.lookup x = some .free ∧ ∃ j : Nat, X.N[j]? = some x ∧ σ[j]? = some (some v) ∧ X.env.scope.names.lookup x = some .cell)
    (len : xs.length = vs.length) (bind : ∀ (pm ctv u : Value), bindArgs (PySem.W.kla_fn "<lambda>" q params body scope (cloFrom X.env.cells scope.names []) pm (.ref c') ctv) ⟨[u], []⟩ = pure [(y, u)]) :
    CloAt B f c' q params body scope (cloFrom X.env.cells scope.names []) y xs vs where
  fn := kb.ext f mf _ hf
  code := kb.ext c' mc _ hc
  kind := kind
  co := co
  gen := gen
  own := own
  par := par
  inj := fun x z c e1 e2 => inj x z c (NdefX.clo_cm hfr e1) (NdefX.clo_cm hfr e2)
  has := fun x e => by
    have m := PySem.mem_of_lookup e
    obtain ⟨c, hc⟩ := hfr _ m rfl
    exact ⟨c, NdefX.clo_has hfr m hc⟩
  cells := fun x c e => kb.any x c (NdefX.clo_cm hfr e)
  caps := fun i x v e1 e2 => by
    obtain ⟨h1, j, h2, h3, h4⟩ := caps i x v e1 e2
    have m := PySem.mem_of_lookup h1
    obtain ⟨c, hc⟩ := hfr _ m rfl
    obtain ⟨u, r, ic⟩ := kb.cell j x v c h2 h3 h4 hc
    exact ⟨c, u, NdefX.clo_has hfr m hc, h1, r, ic⟩
  len := len
  bind := bind
end L2
namespace TW
open PySem PySem.Spec PyProof.Rows L2
abbrev sPairs : Stmt := top 52
abbrev s_outcome : Stmt := inClass (top 53) 11
def spPairs : Sp := fun vs H Q _ => ∃ (d : Addr) (kvs : List (Key × V)) (ks : List Str), vs = [.ref d] ∧ H d = some (.dK kvs) ∧ kvs.map (·.1) = ks.map Sum.inr ∧ ks.length < 64 ∧ ∀ (t : Addr) (H' : Hp) (xs : List V), Same H H' → H' t = some (.tup xs) → Q (.ref t) H'
theorem valV_mem {kvs : List (Key × V)} {k : Key} (h : k ∈ kvs.map (·.1)) : ∃ v, valV kvs k = some v := by
  induction kvs with
  | nil => cases h
  | cons p r ih =>
    by_cases e : p.1 = k
    · exact ⟨p.2, valV_pos e⟩
    · rw [List.map_cons, List.mem_cons] at h
      rcases h with h | h
      · exact absurd h.symm e
      · obtain ⟨v, hv⟩ := ih h
        exact ⟨v, by rw [valV_neg e]; exact hv⟩
section
variable {P : Program} {w : World} {K : PySem.W.Frag} {mg : Str → Option Value} {base : Heap} {CR CT CP : Addr} {n : Nat}
theorem scPairs : FnScope ["table", "name"] ["table"] (defScope sPairs) := ⟨rfl, rfl, rfl, by decide +kernel, rfl, by decide +kernel, by decide +kernel⟩
theorem ok_pairs {f : Addr} {fd : FuncData} (F : Fun K "in_pairs" "in_pairs" sPairs f fd) (B : Blt mg) : FnOk P w K mg base CX0 2 f fd ["table"] spPairs := by
  refine F.ok scPairs (fun vs H Q E h => ?_) (fun cdv A outer s H vs Q E hr h => ?_)
  · obtain ⟨d, kvs, ks, rfl, _⟩ := h
    rfl
  · obtain ⟨d, kvs, ks, rfl, hd, hk, few, k⟩ := h
    refine ⟨_, pss_one (ps_ret (pe_callTy call_tuple_of (by rfl) B.tuple (by decide +kernel) (pa_cons (pe_lc (own := [("name", 1)]) rfl scPairs.nd (pi_list (pe_callB (call_sortedD rfl) (by rfl) B.sorted (by decide +kernel) (pa_cons (pv 0) pa_nil))) (blkOk_by (N := ["table", "name"]) (sc := defScope sPairs) (by decide +kernel))
      (fun _ _ _ _ _ => pg_name (i := 1) scPairs.nd rfl (Or.inl rfl)) (fun _ _ _ _ _ => pts_nil) (te := tTup (tCons (tVar 1) (tCons (tDGet (tVar 0) (tVar 1)) tNil))) (fun _ _ _ _ _ => by exact pe_tup (pa_cons (pv 1) (pa_cons (pe_dget (hu_of hr) (pv 0) (pv 1) (fun _ _ => rfl)) pa_nil)))) pa_nil))), ?_⟩
    refine ⟨_, rfl, d, kvs, ks, rfl, .inl hd, hk, few, fun ys p perm srt hp => ?_⟩
    refine ⟨p, rfl, ⟨_, SqL.of upd_same⟩, fun D hD => ?_⟩
    have s1 := same_new (o := .lst (ys.map V.str)) hp
    have s2 := same_new (o := .lst []) hD
    refine lc_list (K := K) (a := p) (xs := ys.map V.str) (fun i H' => Same (upd H p (.lst (ys.map V.str))) H' ∧ ∃ acc, acc.length = i ∧ H' D = some (.lst acc)) ⟨s2, [], rfl, upd_same⟩ (fun i H' _ z => SqL.of (z.1 _ _ upd_same)) (fun i x H' e z => ?_) (fun H1 z => ?_)
    · obtain ⟨sm, acc, la, hd1⟩ := z
      obtain ⟨nm, hn, rfl⟩ : ∃ nm, ys[i]? = some nm ∧ x = V.str nm := by
        rw [List.getElem?_map] at e
        obtain ⟨z, h1, h2⟩ := Option.map_eq_some_iff.mp e
        exact ⟨z, h1, h2.symm⟩
      have li := (List.getElem?_eq_some_iff.mp hn).1
      have ly : ys.length < 64 := by rw [perm.length_eq]; exact few
      obtain ⟨v, hv⟩ : ∃ v, valV kvs (Sum.inr nm) = some v := valV_mem (by rw [hk]; exact List.mem_map.mpr ⟨nm, perm.mem_iff.mp (List.mem_of_getElem? hn), rfl⟩)
      refine ⟨rfl, ?_⟩
      unfold tYes
      dsimp only
      refine iteT ?_
      refine ⟨_, rfl, _, rfl, _, rfl, d, v, rfl, ?_, two_sz, fun t ht => ?_⟩
      · have z := DGet.k (k := Sum.inr nm) (sm _ _ (s1 _ _ hd))
        rw [hv] at z
        exact z
      · have st := same_new (o := .tup [.str nm, v]) ht
        refine ⟨acc, st _ _ hd1, ?_, fun b o e => ?_, acc ++ [.ref t], by rw [List.length_append, la]; rfl, upd_same⟩
        · rw [la]
          exact Nat.lt_of_lt_of_le (Nat.lt_trans li ly) (small_sz (n := 64) (by decide))
        · rw [upd_ne (ne_of_none e hD)]
          exact st _ _ (sm _ _ e)
    · obtain ⟨sm, acc, la, hd1⟩ := z
      exact ⟨D, acc, rfl, .inl ⟨SqL.of hd1, fun t ht => k t _ acc ((s1.trans sm).trans (same_new ht)) upd_same⟩⟩
def spOutcome (K : PySem.W.Frag) (CR CT CP : Addr) : Sp := fun vs H Q _ => ∃ (r : Addr) (R : RS) (k1 k2 k3 : List Str), vs = [.ref r] ∧ RunAt K CR CT CP H r R ∧ R.places.length ≤ 1000 ∧ R.T.cells.map (·.1) = k1.map Sum.inr ∧ k1.length < 64 ∧ R.T.holders.map (·.1) = k2.map Sum.inr ∧ k2.length < 64 ∧ R.T.rows.map (·.1) = k3.map Sum.inr ∧ k3.length < 64 ∧
  ∀ (t e a b c ww : Addr) (H' : Hp), Same H H' → H' t = some (.tup [.ref e, .ref a, .ref b, .ref c, .ref ww]) → H' e = some (.tup (R.places.map PS.fin)) → H' ww = some (.tup (R.places.map fun x => V.ref x.tw)) → Q (.ref t) H'
theorem sc_outcome : FnScope ["self", "place", "words", "things"] ["self"] (defScope s_outcome) := ⟨rfl, rfl, rfl, by decide +kernel, rfl, by decide +kernel, by decide +kernel⟩
theorem ok_outcome {f fE fP : Addr} {fd fdE fdP : FuncData} (F : Fun K "outcome" "Run.outcome" s_outcome f fd) (B : Blt mg) (X : RTxt K CR) (XP : PTxt K CP) (XT : TTxt K CT) (GE : FnOk P w K mg base CX0 1 fE fdE ["self"] (spEnds K CR CT CP)) (hE : Meth K CR "ends" fE) (bE : Binds K fdE ["self"] [])
    (GP : FnOk P w K mg base CX0 2 fP fdP ["table"] spPairs) (mP : mg "in_pairs" = some (.ref fP)) (kP : PySem.W.keepIn K (.ref fP) = true) (bP : Binds K fdP ["table"] []) : FnOk P w K mg base CX0 3 f fd ["self"] (spOutcome K CR CT CP) := by
  refine F.ok sc_outcome (fun vs H Q E h => ?_) (fun cdv A outer s H vs Q E hr h => ?_)
  · obtain ⟨r, R, k1, k2, k3, rfl, _⟩ := h
    rfl
  · obtain ⟨r, R, k1, k2, k3, rfl, hR, few, c1, l1, c2, l2, c3, l3, hq⟩ := h
    have hr1 : Room 1 _ := hr.mono (by omega)
    refine ⟨_, pss_cons (ps_set (i := 2) sc_outcome.nd rfl (.inl rfl) (pe_callTy call_tuple_of (by rfl) B.tuple (by decide +kernel) (pa_cons (pe_lc (own := [("place", 1)]) rfl sc_outcome.nd (pi_list (pe_fld (pv 0) rfl)) (blkOk_by (N := ["self", "place", "words", "things"]) (sc := defScope s_outcome) (by decide +kernel))
        (fun _ _ _ _ _ => pg_name (i := 1) sc_outcome.nd rfl (Or.inl rfl)) (fun _ _ _ _ _ => pts_nil) (te := tFld K (tVar 1) "words") (fun _ _ _ _ _ => by exact pe_fld (pv 1) rfl)) pa_nil)))
      (pss_cons (ps_set (i := 3) sc_outcome.nd rfl (.inl rfl) (pe_fld (pv 0) rfl))
      (pss_one (ps_ret (pe_tup (pa_cons (pe_meth0 (pv 0) X.cl hE GE hr1 bE .nil pass0) (pa_cons (pe_call GP hr rfl mP kP bP .nil pass0 (pa_cons (pe_fld (pv 3) rfl) pa_nil)) (pa_cons (pe_call GP hr rfl mP kP bP .nil pass0 (pa_cons (pe_fld (pv 3) rfl) pa_nil))
        (pa_cons (pe_call GP hr rfl mP kP bP .nil pass0 (pa_cons (pe_fld (pv 3) rfl) pa_nil)) (pa_cons (pv 2) pa_nil))))))))), ?_⟩
    have nE : (rF (.ref R.sh) (.ref R.th) (.ref R.pl) (.ref R.dn)).lookup ("ends" : Str) = none := rF_no (by decide +kernel) (by decide +kernel) (by decide +kernel) (by decide +kernel)
    refine ⟨_, rfl, r, CR, R.dx, _, _, rfl, hR.ob, X.cl, X.places, rF_get2, R.pl, rfl, ⟨_, SqL.of hR.p⟩, fun D hD => ?_⟩
    refine lc_list (K := K) (a := R.pl) (xs := R.places.map fun x => V.ref x.p) (fun i H' => Same H H' ∧ H' D = some (.lst ((R.places.take i).map fun x => V.ref x.tw))) ⟨same_new hD, upd_same⟩ (fun i H' _ p => SqL.of (p.1 _ _ hR.p)) (fun i x H' e p => ?_) (fun H1 p => ?_)
    · rw [List.getElem?_map] at e
      cases q : R.places[i]? with
      | none =>
        rw [q] at e
        cases e
      | some y =>
        rw [q] at e
        obtain rfl := (Option.some.inj e).symm
        have hP := (hR.e y (List.mem_of_getElem? q)).same p.1
        refine ⟨rfl, ?_⟩
        unfold tYes
        dsimp only
        refine iteT ?_
        refine ⟨_, rfl, y.p, CP, y.dp, _, _, rfl, hP.ob, XP.cl, XP.words, pF_get3, _, p.2, ?_, fun b o z => ?_, ?_⟩
        · rw [List.length_map, List.length_take]
          exact Nat.lt_of_lt_of_le (Nat.lt_succ_of_le (Nat.le_trans (Nat.min_le_right _ _) few)) (small_sz (by decide))
        · rw [upd_ne (ne_of_none z hD)]
          exact p.1 b o z
        · rw [upd_same, take_one q, List.map_append]
          rfl
    · have z := p.2
      rw [List.length_map, List.take_length] at z
      refine ⟨D, _, rfl, .inl ⟨SqL.of z, fun tw htw => ?_⟩⟩
      have s2 := p.1.trans (same_new (o := .tup (R.places.map fun x => V.ref x.tw)) htw)
      have R2 := hR.same s2
      refine ⟨_, rfl, r, CR, R.dx, _, _, rfl, R2.ob, X.cl, X.things, rF_get1, ?_⟩
      refine ⟨_, rfl, r, R.dx, _, rfl, R2.ob, nE, r, R, rfl, R2, few, fun te H3 hte s3 e3 => ?_⟩
      have T3 := R2.t.same s3
      refine ⟨_, rfl, R.th, CT, R.T.dx, _, _, rfl, T3.ob, XT.cl, XT.cells, tF_get0, R.T.cd, R.T.cells, k1, rfl, T3.c, c1, l1, fun ta H4 xs s4 e4 => ?_⟩
      have T4 := T3.same s4
      refine ⟨_, rfl, R.th, CT, R.T.dx, _, _, rfl, T4.ob, XT.cl, XT.holders, tF_get1, R.T.hd, R.T.holders, k2, rfl, T4.h, c2, l2, fun tb H5 ys s5 e5 => ?_⟩
      have T5 := T4.same s5
      refine ⟨_, rfl, R.th, CT, R.T.dx, _, _, rfl, T5.ob, XT.cl, XT.rows, tF_get2, R.T.rd, R.T.rows, k3, rfl, T5.r, c3, l3, fun tc H6 zs s6 e6 => ?_⟩
      have s36 := (s4.trans s5).trans s6
      refine ⟨_, rfl, small_sz (n := 5) (by decide), fun t ht => ?_⟩
      have st := same_new (o := .tup [.ref te, .ref ta, .ref tb, .ref tc, .ref tw]) ht
      exact hq t te ta tb tc tw _ ((((s2.trans s3).trans s36)).trans st) upd_same (st _ _ (s36 _ _ e3)) (st _ _ (s36 _ _ (s3 _ _ upd_same)))
end
end TW
namespace TW
open PySem PySem.Spec PyProof.Rows L2
abbrev sSource : Stmt := top 65
abbrev sDraw : Stmt := top 66
/-- three numbers, the third 0 as yet -/
def spSource (K : PySem.W.Frag) : Sp := fun vs H Q _ => ∃ (a : Addr) (ns : List Int) (i : Nat), vs = [.ref a, .int (i : Int)] ∧ SqL K H a (ns.map V.int) ∧ ns.length ≤ 63 ∧
  ∀ (p : Addr) (x y : Int), H p = none → Q (.ref p) (upd H p (.lst [.int x, .int y, .int 0]))
/-- a number from 0 to below m -/
def spDraw : Sp := fun vs H Q _ => ∃ (p : Addr) (a b c m : Int), vs = [.ref p, .int m] ∧ H p = some (.lst [.int a, .int b, .int c]) ∧ 0 < m ∧ m < 1073741824 ∧
  ∀ r a' b' c' : Int, 0 ≤ r → r < m → Q (.int r) (upd H p (.lst [.int a', .int b', .int c']))
theorem atI_map {ns : List Int} {i : Nat} (h : i < ns.length) : atI (ns.map V.int) (i : Int) = some (.int (ns[i]'h)) := by
  rw [atI_nat]
  rw [List.getElem?_map, List.getElem?_eq_getElem h]
  rfl
section
variable {P : Program} {w : World} {K : PySem.W.Frag} {mg : Str → Option Value} {base : Heap}
theorem scSource : FnScope ["_law_script", "_law_at", "_law_cell"] ["_law_script", "_law_at"] (defScope sSource) := ⟨rfl, rfl, rfl, by decide +kernel, rfl, by decide +kernel, by decide +kernel⟩
theorem ok_source {f : Addr} {fd : FuncData} (F : Fun K "_law_source" "_law_source" sSource f fd) (B : Blt mg) : FnOk P w K mg base CX0 1 f fd ["_law_script", "_law_at"] (spSource K) := by
  refine F.ok scSource (fun vs H Q E h => ?_) (fun cdv A outer s H vs Q E hr h => ?_)
  · obtain ⟨a, ns, i, rfl, _⟩ := h
    rfl
  · obtain ⟨a, ns, i, rfl, hS, hl, k⟩ := h
    refine ⟨_, pss_cons (ps_set (i := 2) scSource.nd rfl (.inl rfl)
        (pe_ifExp (pt_cmpR op_lt (pv 1) (pe_callB call_len_seq (by rfl) B.len PySem.boot_len (pa_cons (pv 0) pa_nil)) (nomark _))
          (pe_ix ix_list (pv 0) (pv 1) (fun _ _ => rfl)) (pe_op op_add (pe_op op_mul pe_int (pv 1)) pe_int)))
      (pss_one (ps_ret (pe_lst (pa_cons (pe_ifExp (pt_cmpR op_ge (pv 2) (pe_op op_pow pe_int pe_int) (nomark _)) (pv 2) pe_int)
        (pa_cons (pe_op op_mod (pe_callTy call_int1 (by rfl) B.int (by decide +kernel) (pa_cons (pv 2) pa_nil)) pe_int) (pa_cons pe_int pa_nil)))))), ?_⟩
    have rest : ∀ z : Int, tRet (tLst (tCons (tIf (tTest (tOp (rI0 fun i j => .bl (decide (j ≤ i))) (tVar 2) (tOp (rI CPow fun i j => .int (i ^ j.toNat)) (tC (.int 10)) (tC (.int 18))))) (tVar 2) (tC (.int 0)))
        (tCons (tOp (rI (fun _ j => 0 < j) fun i j => .int (i % j)) (tCB (fun xs H Q => (∃ i, xs = [.int i] ∧ Q (.int i) H) ∨ ∃ k, xs = [.bl k] ∧ Q (.int (if k then 1 else 0)) H) (tCons (tVar 2) tNil)) (tC (.int 2147483647))) (tCons (tC (.int 0)) tNil))))
        { nx := fun _ H' => Q .non H', rt := Q } [some (.ref a), some (.int (i : Int)), some (.int z)] H := by
      intro z
      refine ⟨_, rfl, _, _, rfl, rfl, ⟨by decide, by decide, by decide⟩, _, _, rfl, rfl, _, rfl, ?_⟩
      refine ite2 (fun _ => ?_) (fun _ => ?_)
      · exact ⟨_, rfl, _, rfl, .inl ⟨_, rfl, _, _, rfl, rfl, by show (0 : Int) < 2147483647; decide, by show 3 ≤ sizeLine; decide, fun p hp => k p _ _ hp⟩⟩
      · exact ⟨_, rfl, .inl ⟨_, rfl, _, _, rfl, rfl, by show (0 : Int) < 2147483647; decide, by show 3 ≤ sizeLine; decide, fun p hp => k p _ _ hp⟩⟩
    refine ⟨_, rfl, _, rfl, a, _, rfl, .inl hS, _, _, rfl, rfl, _, rfl, ?_⟩
    refine ite2 (fun c => ?_) (fun _ => ?_)
    · have hi : i < ns.length := by
        have z := of_decide_eq_true c
        rw [List.length_map] at z
        omega
      exact ⟨_, rfl, _, rfl, a, _, _, _, rfl, rfl, hS, atI_map hi, rest _⟩
    · exact ⟨_, rfl, _, _, rfl, rfl, .inl ⟨by decide, by decide⟩, _, _, rfl, rfl, rest _⟩
theorem scDraw : FnScope ["_law_draws", "_law_many", "_law_found"] ["_law_draws", "_law_many"] (defScope sDraw) := ⟨rfl, rfl, rfl, by decide +kernel, rfl, by decide +kernel, by decide +kernel⟩
theorem ok_draw {f : Addr} {fd : FuncData} (F : Fun K "_law_draw" "_law_draw" sDraw f fd) (B : Blt mg) : FnOk P w K mg base CX0 1 f fd ["_law_draws", "_law_many"] spDraw := by
  refine F.ok scDraw (fun vs H Q E h => ?_) (fun cdv A outer s H vs Q E hr h => ?_)
  · obtain ⟨p, a, b, c, m, rfl, _⟩ := h
    rfl
  · obtain ⟨p, a, b, c, m, rfl, hp, h0, h1, k⟩ := h
    refine ⟨_, pss_cons (ps_if (pt_cmpR op_gt (pe_ix ix_list (pv 0) pe_int (fun _ _ => rfl)) pe_int (nomark _))
        (pss_cons (ps_set (i := 2) scDraw.nd rfl (.inl rfl) (pe_op op_mod (pe_callTy call_int1 (by rfl) B.int (by decide +kernel) (pa_cons (pe_ix ix_list (pv 0) pe_int (fun _ _ => rfl)) pa_nil)) (pv 1)))
        (pss_cons (ps_asg (pe_op op_fdivN (pe_ix ix_list (pv 0) pe_int (fun _ _ => rfl)) (pv 1)) (pg_sub (pv 0) pe_int set_list))
        (pss_one (ps_ret (pv 2))))) pss_nil)
      (pss_cons (ps_asg (pe_op op_add (pe_ix ix_list (pv 0) pe_int (fun _ _ => rfl)) pe_int) (pg_sub (pv 0) pe_int set_list))
      (pss_cons (ps_asg (pe_op op_mod (pe_callTy call_int1 (by rfl) B.int (by decide +kernel) (pa_cons (pe_op op_add (pe_op op_add (pe_op op_mul (pe_ix ix_list (pv 0) pe_int (fun _ _ => rfl)) pe_int) (pe_op op_mul (pe_ix ix_list (pv 0) pe_int (fun _ _ => rfl)) pe_int)) pe_int) pa_nil)) pe_int) (pg_sub (pv 0) pe_int set_list))
      (pss_one (ps_ret (pe_op op_mod (pe_callTy call_int1 (by rfl) B.int (by decide +kernel) (pa_cons (pe_op op_add (pe_op op_fdiv (pe_ix ix_list (pv 0) pe_int (fun _ _ => rfl)) pe_int) (pe_ix ix_list (pv 0) pe_int (fun _ _ => rfl))) pa_nil)) (pv 1)))))), ?_⟩
    have at0 : ∀ x y z : V, atI [x, y, z] 0 = some x := fun _ _ _ => atI_nat (j := 0) rfl
    have at1 : ∀ x y z : V, atI [x, y, z] 1 = some y := fun _ _ _ => atI_nat (j := 1) rfl
    have at2 : ∀ x y z : V, atI [x, y, z] 2 = some z := fun _ _ _ => atI_nat (j := 2) rfl
    refine ⟨_, rfl, p, _, _, _, rfl, rfl, SqL.of hp, at0 _ _ _, _, _, rfl, rfl, _, rfl, ?_⟩
    refine ite2 (fun _ => ?_) (fun _ => ?_)
    · refine ⟨_, rfl, p, _, _, _, rfl, rfl, SqL.of hp, at0 _ _ _, .inl ⟨_, rfl, _, rfl, _, _, rfl, rfl, h0, ?_⟩⟩
      refine ⟨_, rfl, p, _, _, _, rfl, rfl, SqL.of hp, at0 _ _ _, _, rfl, _, _, rfl, rfl, ⟨by omega, by omega⟩, ?_⟩
      refine ⟨_, rfl, p, _, _, 0, rfl, rfl, hp, rfl, ?_⟩
      exact ⟨_, rfl, k _ _ _ _ (Int.emod_nonneg _ (by omega)) (Int.emod_lt_of_pos _ h0)⟩
    · refine ⟨_, rfl, p, _, _, _, rfl, rfl, SqL.of hp, at2 _ _ _, _, _, rfl, rfl, _, rfl, p, _, _, 2, rfl, rfl, hp, rfl, ?_⟩
      refine ⟨_, rfl, p, _, _, _, rfl, rfl, SqL.of upd_same, at1 _ _ _, _, _, rfl, rfl, .inr ⟨by decide, by decide⟩, ?_⟩
      refine ⟨_, rfl, p, _, _, _, rfl, rfl, SqL.of upd_same, at2 _ _ _, _, _, rfl, rfl, .inr ⟨by decide, by decide⟩, ?_⟩
      refine ⟨_, _, rfl, rfl, _, _, rfl, rfl, .inl ⟨_, rfl, _, _, rfl, rfl, by show (0 : Int) < 2147483647; decide, ?_⟩⟩
      refine ⟨_, rfl, p, _, _, 1, rfl, rfl, upd_same, rfl, ?_⟩
      refine ⟨_, rfl, p, _, _, _, rfl, rfl, SqL.of upd_same, at1 _ _ _, _, _, rfl, rfl, ⟨by decide, by decide⟩, ?_⟩
      refine ⟨_, rfl, p, _, _, _, rfl, rfl, SqL.of upd_same, at1 _ _ _, _, _, rfl, rfl, .inl ⟨_, rfl, _, rfl, _, _, rfl, rfl, h0, ?_⟩⟩
      rw [upd_upd]
      exact k _ _ _ _ (Int.emod_nonneg _ (by omega)) (Int.emod_lt_of_pos _ h0)
end
end TW
namespace TW
open PySem PySem.Spec PyProof.Rows L2
/-- equal data, of one kind, nested at most n deep -/
inductive Tw (K : PySem.W.Frag) (H : Hp) : Nat → V → V → Prop where
  | non (n : Nat) : Tw K H n .non .non
  | bl (n : Nat) (b : Bool) : Tw K H n (.bl b) (.bl b)
  | int (n : Nat) (i : Int) : Tw K H n (.int i) (.int i)
  | str (n : Nat) (x : Str) : Tw K H n (.str x) (.str x)
  | lst {n : Nat} {a b : Addr} {xs ys : List V} (ha : SqL K H a xs) (hb : SqL K H b ys) (hl : xs.length = ys.length) (few : xs.length ≤ 1000) (each : ∀ (i : Nat) (x y : V), xs[i]? = some x → ys[i]? = some y → Tw K H n x y) : Tw K H (n + 1) (.ref a) (.ref b)
  | tup {n : Nat} {a b : Addr} {xs ys : List V} (ha : SqT K H a xs) (hb : SqT K H b ys) (hl : xs.length = ys.length) (few : xs.length ≤ 1000) (each : ∀ (i : Nat) (x y : V), xs[i]? = some x → ys[i]? = some y → Tw K H n x y) : Tw K H (n + 1) (.ref a) (.ref b)
/-- lists and tuples stand as they stood -/
structure Seqs (K : PySem.W.Frag) (H H' : Hp) : Prop where
  l : ∀ {a : Addr} {xs : List V}, SqL K H a xs → SqL K H' a xs
  t : ∀ {a : Addr} {xs : List V}, SqT K H a xs → SqT K H' a xs
section
variable {K : PySem.W.Frag} {H H' : Hp}
theorem Seqs.of (e : Same H H') : Seqs K H H' := ⟨fun h => e.seq h, fun h => seqT_same e h⟩
theorem Tw.keep {n : Nat} {x y : V} (e : Seqs K H H') (h : Tw K H n x y) : Tw K H' n x y := by
  induction h with
  | non n => exact .non n
  | bl n b => exact .bl n b
  | int n i => exact .int n i
  | str n x => exact .str n x
  | lst ha hb hl few _ ih => exact .lst (e.l ha) (e.l hb) hl few fun i x y h1 h2 => ih i x y h1 h2
  | tup ha hb hl few _ ih => exact .tup (e.t ha) (e.t hb) hl few fun i x y h1 h2 => ih i x y h1 h2
theorem Tw.same {n : Nat} {x y : V} (e : Same H H') (h : Tw K H n x y) : Tw K H' n x y := h.keep (.of e)
end
/-- x is neither a list nor a tuple: what isinstance says of it -/
structure Flat (K : PySem.W.Frag) (x : V) (T : String) (isN : Bool) : Prop where
  ty : ∀ H, TyX K H x (.type T)
  sc : scal x x = true
  seq : kitAB T ["list", "tuple"] = some false
  num : kitAB T ["bool", "int"] = some isN
  int : isN = true → kitB T "int" = some true
  bool : isN = true → ∃ b, kitB T "bool" = some b
  four : isN = false → kitAB T ["bool", "int", "list", "tuple"] = some false
theorem Tw.kinds {K : PySem.W.Frag} {H : Hp} {n : Nat} {x y : V} (h : Tw K H n x y) : (y = x ∧ ∃ T num, Flat K x T num) ∨
    (∃ m a b xs ys, n = m + 1 ∧ x = .ref a ∧ y = .ref b ∧ xs.length = ys.length ∧ xs.length ≤ 1000 ∧ (∀ (i : Nat) (x y : V), xs[i]? = some x → ys[i]? = some y → Tw K H m x y) ∧
      ((SqL K H a xs ∧ SqL K H b ys) ∨ (SqT K H a xs ∧ SqT K H b ys))) := by
  cases h with
  | non => exact .inl ⟨rfl, "NoneType", false, ⟨fun _ => .base .non, rfl, by decide +kernel, by decide +kernel, fun z => (nomatch z), fun z => (nomatch z), fun _ => by decide +kernel⟩⟩
  | bl _ b => exact .inl ⟨rfl, "bool", true, ⟨fun _ => .base (.bl b), rfl, by decide +kernel, by decide +kernel, fun _ => by decide +kernel, fun _ => ⟨true, by decide +kernel⟩, fun z => (nomatch z)⟩⟩
  | int _ i => exact .inl ⟨rfl, "int", true, ⟨fun _ => .base (.int i), rfl, by decide +kernel, by decide +kernel, fun _ => by decide +kernel, fun _ => ⟨false, by decide +kernel⟩, fun z => (nomatch z)⟩⟩
  | str _ s => exact .inl ⟨rfl, "str", false, ⟨fun _ => .base (.str s), rfl, by decide +kernel, by decide +kernel, fun z => (nomatch z), fun z => (nomatch z), fun _ => by decide +kernel⟩⟩
  | lst ha hb hl few each => exact .inr ⟨_, _, _, _, _, rfl, rfl, rfl, hl, few, each, .inl ⟨ha, hb⟩⟩
  | tup ha hb hl few each => exact .inr ⟨_, _, _, _, _, rfl, rfl, rfl, hl, few, each, .inr ⟨ha, hb⟩⟩
theorem four_sz : 4 ≤ sizeLine := by
  rw [sizeLine_eq]
  decide
/-- a tuple of names as a comprehension's target -/
theorem pg_tupB {X : Cx} {s : Shared} {H : Hp} {scope : Scope} {env : Env} {fp : List Addr} {es : List Expr} {k n : Nat} {t : TGs} {pos : Pos} (hc : (X.blk s H scope env fp).calm = true) (h : PGs (X.blk s H scope env fp) es t)
    (hn : (assignEach es (X.blk s H scope env fp).env).length = n := by rfl) (hst : (assignEach es (X.blk s H scope env fp).env).findIdx? (·.1) = none := by rfl) : PG (X.blk s H scope env fp) (.Tuple es k pos) (gTup X.K n t) :=
  pg_tup (X := X.blk s H scope env fp) hc h hn hst
/-- the law's own same: True of equal data of one kind -/
def spSame (K : PySem.W.Frag) (n : Nat) : Sp := fun vs H Q _ => ∃ x y : V, vs = [x, y] ∧ Tw K H n x y ∧ ∀ H', Same H H' → Q (.bl true) H'
abbrev sSame : Stmt := top 68
section
variable {P : Program} {w : World} {K : PySem.W.Frag} {mg : Str → Option Value} {base : Heap}
theorem scSame : FnScope ["_law_found", "_law_due_here", "_law_left", "_law_right"] ["_law_found", "_law_due_here"] (defScope sSame) := ⟨rfl, rfl, rfl, by decide +kernel, rfl, by decide +kernel, by decide +kernel⟩
theorem same_body {f : Addr} {fd : FuncData} {n k : Nat} {spR : Sp} (F : Fun K "_law_same" "_law_same" sSame f fd) (B : Blt mg) (hm : mg "_law_same" = some (.ref f)) (bS : Binds K fd ["_law_found", "_law_due_here"] [])
    (R : FnOk P w K mg base CX0 k f fd ["_law_found", "_law_due_here"] spR) (hR : ∀ m, n = m + 1 → spR = spSame K m) : FnOk P w K mg base CX0 (k + 1) f fd ["_law_found", "_law_due_here"] (spSame K n) := by
  refine F.ok scSame (fun vs H Q E h => ?_) (fun cdv A outer s H vs Q E hr h => ?_)
  · obtain ⟨x, y, rfl, _⟩ := h
    rfl
  · obtain ⟨x, y, rfl, hT, kQ⟩ := h
    refine ⟨_, pss_cons (ps_if (pt_val (pe_callB call_isiT (by rfl) B.isi (by decide +kernel) (pa_cons (pv 1) (pa_cons (pe_tup (pa_cons (pe_bltn (v := .ty "list") (by rfl) B.list (by decide +kernel) rfl) (pa_cons (pe_bltn (v := .ty "tuple") (by rfl) B.tuple (by decide +kernel) rfl) pa_nil))) pa_nil))))
        (pss_cons (ps_if (PW.pt (pw_or (pt_cmpR op_ne (pe_callB call_isi (by rfl) B.isi (by decide +kernel) (pa_cons (pv 0) (pa_cons (pe_bltn (v := .ty "list") (by rfl) B.list (by decide +kernel) rfl) pa_nil))) (pe_callB call_isi (by rfl) B.isi (by decide +kernel) (pa_cons (pv 1) (pa_cons (pe_bltn (v := .ty "list") (by rfl) B.list (by decide +kernel) rfl) pa_nil))) (nomark _))
            (pw_or1 (pt_cmpR op_ne (pe_callB call_isi (by rfl) B.isi (by decide +kernel) (pa_cons (pv 0) (pa_cons (pe_bltn (v := .ty "tuple") (by rfl) B.tuple (by decide +kernel) rfl) pa_nil))) (pe_callB call_isi (by rfl) B.isi (by decide +kernel) (pa_cons (pv 1) (pa_cons (pe_bltn (v := .ty "tuple") (by rfl) B.tuple (by decide +kernel) rfl) pa_nil))) (nomark _)))))
          (pss_one (ps_ret pe_bl)) pss_nil)
        (pss_one (ps_ret (pe_and (pe_cmpR op_eq (pe_callB call_len_seq (by rfl) B.len PySem.boot_len (pa_cons (pv 0) pa_nil)) (pe_callB call_len_seq (by rfl) B.len PySem.boot_len (pa_cons (pv 1) pa_nil)) (nomark _))
          (pe_one (pe_callB (cr_all rfl) (by rfl) B.all (by decide +kernel) (pa_cons
            (pe_lc (own := [("_law_left", 2), ("_law_right", 3)]) rfl scSame.nd (RZ.pi_zipA (by rfl) B.zip (pa_cons (pv 0) (pa_cons (pv 1) pa_nil))) (blkOk_by (N := ["_law_found", "_law_due_here", "_law_left", "_law_right"]) (sc := defScope sSame) (by decide +kernel))
              (fun _ _ _ _ _ => pg_tupB (n := 2) rfl (pgs_cons (pg_name (i := 2) scSame.nd rfl (Or.inl rfl)) (pgs_cons (pg_name (i := 3) scSame.nd rfl (Or.inl rfl)) pgs_nil))) (fun _ _ _ _ _ => pts_nil)
              (fun _ _ _ _ _ => pe_call R hr rfl hm F.kp bS .nil pass0 (pa_cons (pv 2) (pa_cons (pv 3) pa_nil)))) pa_nil)))))))
        pss_nil)
      (pss_cons (ps_if (pt_val (pe_callB call_isiT (by rfl) B.isi (by decide +kernel) (pa_cons (pv 1) (pa_cons (pe_tup (pa_cons (pe_bltn (v := .ty "bool") (by rfl) B.bool (by decide +kernel) rfl) (pa_cons (pe_bltn (v := .ty "int") (by rfl) B.int (by decide +kernel) rfl) pa_nil))) pa_nil))))
        (pss_one (ps_ret (pe_and (pe_callB call_isi (by rfl) B.isi (by decide +kernel) (pa_cons (pv 0) (pa_cons (pe_bltn (v := .ty "int") (by rfl) B.int (by decide +kernel) rfl) pa_nil)))
          (pe_and (pe_cmpR op_eq (pe_callB call_isi (by rfl) B.isi (by decide +kernel) (pa_cons (pv 0) (pa_cons (pe_bltn (v := .ty "bool") (by rfl) B.bool (by decide +kernel) rfl) pa_nil))) (pe_callB call_isi (by rfl) B.isi (by decide +kernel) (pa_cons (pv 1) (pa_cons (pe_bltn (v := .ty "bool") (by rfl) B.bool (by decide +kernel) rfl) pa_nil))) (nomark _))
            (pe_one (pe_cmpR op_eq (pv 0) (pv 1) (nomark _))))))) pss_nil)
      (pss_one (ps_ret (pe_and (pe_not (pe_callB call_isiT (by rfl) B.isi (by decide +kernel) (pa_cons (pv 0) (pa_cons (pe_tup (pa_cons (pe_bltn (v := .ty "bool") (by rfl) B.bool (by decide +kernel) rfl) (pa_cons (pe_bltn (v := .ty "int") (by rfl) B.int (by decide +kernel) rfl) (pa_cons (pe_bltn (v := .ty "list") (by rfl) B.list (by decide +kernel) rfl) (pa_cons (pe_bltn (v := .ty "tuple") (by rfl) B.tuple (by decide +kernel) rfl) pa_nil))))) pa_nil))))
        (pe_one (pe_cmpR op_eq (pv 0) (pv 1) (nomark _))))))), ?_⟩
    rcases hT.kinds with ⟨rfl, T, num, Fl⟩ | ⟨m, a, b, xs, ys, rfl, rfl, rfl, hl, few, each, hs⟩
    · -- neither a list nor a tuple
      refine ⟨_, rfl, two_sz, fun p hp => ?_⟩
      refine ⟨_, p, _, _, [.type "list", .type "tuple"], _, rfl, upd_same, .cons (.ty _) (.cons (.ty _) .nil), Fl.ty _, kitA (cs := ["list", "tuple"]) Fl.seq, _, rfl, ?_⟩
      refine iteF ?_
      refine ⟨_, rfl, two_sz, fun p2 hp2 => ?_⟩
      refine ⟨_, p2, _, _, [.type "bool", .type "int"], _, rfl, upd_same, .cons (.ty _) (.cons (.ty _) .nil), Fl.ty _, kitA (cs := ["bool", "int"]) Fl.num, _, rfl, ?_⟩
      have s2 : Same H (upd (upd H p (.tup [.ty "list", .ty "tuple"])) p2 (.tup [.ty "bool", .ty "int"])) := (same_new hp).trans (same_new hp2)
      cases num with
      | true =>
        refine iteT ?_
        obtain ⟨bb, hbb⟩ := Fl.bool rfl
        refine ⟨_, rfl, _, _, _, _, _, rfl, .ty _, Fl.ty _, kit_ty (Fl.int rfl), _, rfl, ?_⟩
        refine iteT ?_
        refine ⟨_, rfl, _, _, _, _, _, rfl, .ty _, Fl.ty _, kit_ty hbb, _, rfl, _, _, _, _, _, rfl, .ty _, Fl.ty _, kit_ty hbb, rfl, _, rfl, ?_⟩
        refine iteD rfl ?_
        refine ⟨_, rfl, _, rfl, Fl.sc, ?_⟩
        rw [decide_eq_true rfl]
        exact kQ _ s2
      | false =>
        refine iteF ?_
        refine ⟨_, rfl, four_sz, fun p3 hp3 => ?_⟩
        refine ⟨_, p3, _, _, [.type "bool", .type "int", .type "list", .type "tuple"], _, rfl, upd_same, .cons (.ty _) (.cons (.ty _) (.cons (.ty _) (.cons (.ty _) .nil))), Fl.ty _, kitA (cs := ["bool", "int", "list", "tuple"]) (Fl.four rfl), _, rfl, _, rfl, ?_⟩
        refine iteT ?_
        refine ⟨_, rfl, _, rfl, Fl.sc, ?_⟩
        rw [decide_eq_true rfl]
        exact kQ _ (s2.trans (same_new hp3))
    · -- a list or a tuple, both
      have hRm := hR m rfl
      subst hRm
      obtain ⟨T, b1, b2, hTs, e1, e2, tyA, tyB⟩ : ∃ (T : String) (b1 b2 : Bool), kitAB T ["list", "tuple"] = some true ∧ kitB T "list" = some b1 ∧ kitB T "tuple" = some b2 ∧ (∀ H', Same H H' → TyX K H' (.ref a) (.type T)) ∧ (∀ H', Same H H' → TyX K H' (.ref b) (.type T)) := by
        rcases hs with ⟨ha, hb⟩ | ⟨ha, hb⟩
        · exact ⟨"list", true, false, by decide +kernel, by decide +kernel, by decide +kernel, fun H' e => tyx_list (e.seq ha), fun H' e => tyx_list (e.seq hb)⟩
        · exact ⟨"tuple", false, true, by decide +kernel, by decide +kernel, by decide +kernel, fun H' e => tyx_tup (seqT_same e ha), fun H' e => tyx_tup (seqT_same e hb)⟩
      refine ⟨_, rfl, two_sz, fun p hp => ?_⟩
      have s1 : Same H (upd H p (.tup [.ty "list", .ty "tuple"])) := same_new hp
      refine ⟨_, p, _, _, [.type "list", .type "tuple"], _, rfl, upd_same, .cons (.ty _) (.cons (.ty _) .nil), tyB _ s1, kitA (cs := ["list", "tuple"]) hTs, _, rfl, ?_⟩
      refine iteT ?_
      refine ⟨_, rfl, _, _, _, _, _, rfl, .ty _, tyA _ s1, kit_ty e1, _, rfl, _, _, _, _, _, rfl, .ty _, tyB _ s1, kit_ty e1, rfl, _, rfl, ?_⟩
      refine iteNS rfl ?_
      refine ⟨_, rfl, _, _, _, _, _, rfl, .ty _, tyA _ s1, kit_ty e2, _, rfl, _, _, _, _, _, rfl, .ty _, tyB _ s1, kit_ty e2, rfl, _, rfl, ?_⟩
      refine iteNS rfl ?_
      rcases hs with ⟨ha, hb⟩ | ⟨ha, hb⟩
      · refine ⟨_, rfl, a, _, rfl, .inl (s1.seq ha), _, rfl, b, _, rfl, .inl (s1.seq hb), rfl, _, rfl, ?_⟩
        refine iteD (by rw [hl]) ?_
        refine ⟨_, rfl, _, rfl, a, b, xs, ys, rfl, .inl ⟨s1.seq ha, s1.seq hb, fun D hD => ?_⟩⟩
        refine lc_it (walk_zip rfl) (fun i H' => Same (upd H p (.tup [.ty "list", .ty "tuple"])) H' ∧ H' D = some (.lst (List.replicate i (.bl true)))) ⟨same_new hD, upd_same⟩ (fun i H' _ z => ⟨z.1.seq (s1.seq ha), z.1.seq (s1.seq hb)⟩) ?_ ?_
        · rintro i v H' H'' hi ⟨z, hd⟩ ⟨T', x, y, rfl, hT', rfl, hx, hy⟩
          refine ⟨T', [x, y], rfl, SqT.of upd_same, rfl, x, [y], rfl, y, [], rfl, rfl, rfl, ?_⟩
          unfold tYes
          dsimp only
          refine iteT ?_
          refine ⟨_, rfl, _, rfl, x, y, rfl, (each i x y hx hy).same (s1.trans (z.trans (same_new hT'))), fun H4 s4 => ?_⟩
          refine ⟨_, s4 _ _ (same_new hT' _ _ hd), ?_, fun c o e => ?_, ?_⟩
          · rw [List.length_replicate, sizeLine_eq]
            omega
          · rw [upd_ne (ne_of_none e hD)]
            exact s4 c o (same_new hT' c o (z c o e))
          · rw [upd_same, List.replicate_succ']
        · rintro H' ⟨z, hd⟩
          refine ⟨D, List.replicate (min xs.length ys.length) true, rfl, SqL.of (by rw [List.map_replicate]; exact hd), ?_⟩
          have e : (List.replicate (min xs.length ys.length) true).all id = true := by simp
          rw [e]
          exact kQ _ (s1.trans z)
      · refine ⟨_, rfl, a, _, rfl, .inr (seqT_same s1 ha), _, rfl, b, _, rfl, .inr (seqT_same s1 hb), rfl, _, rfl, ?_⟩
        refine iteD (by rw [hl]) ?_
        refine ⟨_, rfl, _, rfl, a, b, xs, ys, rfl, .inr ⟨seqT_same s1 ha, seqT_same s1 hb, fun D hD => ?_⟩⟩
        refine lc_it (walk_zipT rfl) (fun i H' => Same (upd H p (.tup [.ty "list", .ty "tuple"])) H' ∧ H' D = some (.lst (List.replicate i (.bl true)))) ⟨same_new hD, upd_same⟩ (fun i H' _ z => ⟨seqT_same z.1 (seqT_same s1 ha), seqT_same z.1 (seqT_same s1 hb)⟩) ?_ ?_
        · rintro i v H' H'' hi ⟨z, hd⟩ ⟨T', x, y, rfl, hT', rfl, hx, hy⟩
          refine ⟨T', [x, y], rfl, SqT.of upd_same, rfl, x, [y], rfl, y, [], rfl, rfl, rfl, ?_⟩
          unfold tYes
          dsimp only
          refine iteT ?_
          refine ⟨_, rfl, _, rfl, x, y, rfl, (each i x y hx hy).same (s1.trans (z.trans (same_new hT'))), fun H4 s4 => ?_⟩
          refine ⟨_, s4 _ _ (same_new hT' _ _ hd), ?_, fun c o e => ?_, ?_⟩
          · rw [List.length_replicate, sizeLine_eq]
            omega
          · rw [upd_ne (ne_of_none e hD)]
            exact s4 c o (same_new hT' c o (z c o e))
          · rw [upd_same, List.replicate_succ']
        · rintro H' ⟨z, hd⟩
          refine ⟨D, List.replicate (min xs.length ys.length) true, rfl, SqL.of (by rw [List.map_replicate]; exact hd), ?_⟩
          have e : (List.replicate (min xs.length ys.length) true).all id = true := by simp
          rw [e]
          exact kQ _ (s1.trans z)
theorem ok_lsame {f : Addr} {fd : FuncData} (F : Fun K "_law_same" "_law_same" sSame f fd) (B : Blt mg) (hm : mg "_law_same" = some (.ref f)) (bS : Binds K fd ["_law_found", "_law_due_here"] []) :
    ∀ n : Nat, FnOk P w K mg base CX0 (n + 1) f fd ["_law_found", "_law_due_here"] (spSame K n)
  | 0 => same_body (k := 0) F B hm bS fn_never fun m e => nomatch e
  | n + 1 => same_body (k := n + 1) F B hm bS (ok_lsame F B hm bS n) fun m e => by
    cases e
    rfl
end
end TW
namespace TW
open PySem PySem.Spec PyProof.Rows L2
abbrev sPick : Stmt := top 67
abbrev sDue : Stmt := top 70
/-- one of some things -/
def spPick (K : PySem.W.Frag) : Sp := fun vs H Q _ => ∃ (p l : Addr) (a b c : Int) (xs : List V), vs = [.ref p, .ref l] ∧ H p = some (.lst [.int a, .int b, .int c]) ∧ SqL K H l xs ∧ 0 < xs.length ∧ xs.length ≤ 1000 ∧ (∀ a' b' c' : Int, SqL K (upd H p (.lst [.int a', .int b', .int c'])) l xs) ∧
  ∀ (j : Nat) (v : V) (a' b' c' : Int), xs[j]? = some v → Q v (upd H p (.lst [.int a', .int b', .int c']))
/-- what a work meets, by its place in the order -/
def hereAt (b : Int) (order : List Nat) (start : V) (i : Nat) : V := match i with
  | 0 => start
  | i + 1 => .int (b + (order.getD i 0 : Nat))
def spDue (K : PySem.W.Frag) : Sp := fun vs H Q _ => ∃ (b : Int) (many : Nat) (o : Addr) (order : List Nat) (start : V), vs = [.int b, .int (many : Nat), .ref o, start] ∧ SqL K H o (order.map fun k => V.int (k : Nat)) ∧ many ≤ 100 ∧ order.length ≤ 100 ∧ (∀ k ∈ order, k < many) ∧ order.Nodup ∧ FlatA start ∧
  ∀ (t e s : Addr) (es ss : List V) (H' : Hp), Same H H' → H' t = some (.tup [.ref e, .ref s, hereAt b order start order.length]) → H' e = some (.tup es) → H' s = some (.tup ss) → es.length = many → ss.length = many →
    (∀ (i k : Nat), order[i]? = some k → ∃ te ts tt, es[k]? = some (.ref te) ∧ ss[k]? = some (.ref ts) ∧ H' te = some (.tup [.str "told", toldN b k (hereAt b order start i)]) ∧ H' ts = some (.tup [.int (k : Nat), .ref tt]) ∧ H' tt = some (.tup [hereAt b order start i, .int (k : Nat)])) → Q (.ref t) H'
theorem rep_len {α : Type} (m : Nat) (x : α) : (List.replicate ((m : Nat) : Int).toNat [x]).flatten.length = m := by
  rw [show ((m : Nat) : Int).toNat = m from Int.toNat_natCast m]
  induction m with
  | zero => rfl
  | succ m ih => rw [List.replicate_succ, List.flatten_cons, List.length_append, ih, List.length_singleton, Nat.add_comm]
/-- what has been written of the due before the j-th step -/
def DueAt (b : Int) (order : List Nat) (start : V) (es ss : List V) (H : Hp) (j : Nat) : Prop := ∀ (i k : Nat), order[i]? = some k → i < j → ∃ te ts tt, es[k]? = some (.ref te) ∧ ss[k]? = some (.ref ts) ∧ H te = some (.tup [.str "told", toldN b k (hereAt b order start i)]) ∧ H ts = some (.tup [.int (k : Nat), .ref tt]) ∧ H tt = some (.tup [hereAt b order start i, .int (k : Nat)])
theorem hereAt_flat {b : Int} {order : List Nat} {start : V} (fs : FlatA start) : ∀ i, FlatA (hereAt b order start i)
  | 0 => fs
  | _ + 1 => .inl ⟨_, rfl⟩
theorem hereAt_next {b : Int} {order : List Nat} {start : V} {j k : Nat} (h : order[j]? = some k) : hereAt b order start (j + 1) = .int (b + (k : Nat)) := by
  show V.int (b + (order.getD j 0 : Nat)) = _
  rw [List.getD_eq_getElem?_getD, h]
  rfl
theorem nodup_at {α : Type} {xs : List α} (nd : xs.Nodup) {i j : Nat} {x : α} (hi : xs[i]? = some x) (hj : xs[j]? = some x) : i = j := by
  obtain ⟨h1, e1⟩ := List.getElem?_eq_some_iff.mp hi
  obtain ⟨h2, e2⟩ := List.getElem?_eq_some_iff.mp hj
  rcases Nat.lt_trichotomy i j with lt | eq | lt
  · exact absurd (e1.trans e2.symm) (List.pairwise_iff_getElem.mp nd i j h1 h2 lt)
  · exact eq
  · exact absurd (e2.trans e1.symm) (List.pairwise_iff_getElem.mp nd j i h2 h1 lt)
section
variable {P : Program} {w : World} {K : PySem.W.Frag} {mg : Str → Option Value} {base : Heap}
theorem scPick : FnScope ["_law_draws", "_law_xs"] ["_law_draws", "_law_xs"] (defScope sPick) := ⟨rfl, rfl, rfl, by decide +kernel, rfl, by decide +kernel, by decide +kernel⟩
theorem ok_pick {f fD : Addr} {fd fdD : FuncData} (F : Fun K "_law_pick" "_law_pick" sPick f fd) (B : Blt mg) (GD : FnOk P w K mg base CX0 1 fD fdD ["_law_draws", "_law_many"] spDraw) (mD : mg "_law_draw" = some (.ref fD)) (kD : PySem.W.keepIn K (.ref fD) = true) (bD : Binds K fdD ["_law_draws", "_law_many"] []) :
    FnOk P w K mg base CX0 2 f fd ["_law_draws", "_law_xs"] (spPick K) := by
  refine F.ok scPick (fun vs H Q E h => ?_) (fun cdv A outer s H vs Q E hr h => ?_)
  · obtain ⟨p, l, a, b, c, xs, rfl, _⟩ := h
    rfl
  · obtain ⟨p, l, a, b, c, xs, rfl, hp, hl, h0, h1, kp, k⟩ := h
    refine ⟨_, pss_one (ps_ret (pe_ix ix_list (pv 1) (pe_call GD hr rfl mD kD bD .nil pass0 (pa_cons (pv 0) (pa_cons (pe_callB call_len_seq (by rfl) B.len PySem.boot_len (pa_cons (pv 1) pa_nil)) pa_nil))) (fun _ _ => rfl))), ?_⟩
    refine ⟨_, rfl, _, rfl, _, rfl, l, xs, rfl, .inl hl, p, a, b, c, (xs.length : Nat), rfl, hp, by omega, by omega, fun r a' b' c' r0 r1 => ?_⟩
    obtain ⟨j, rfl, hj⟩ : ∃ j : Nat, r = (j : Int) ∧ j < xs.length := ⟨r.toNat, by omega, by omega⟩
    exact ⟨l, xs, _, _, rfl, rfl, kp a' b' c', atI_nat (j := j) (List.getElem?_eq_getElem hj), k j _ a' b' c' (List.getElem?_eq_getElem hj)⟩
theorem scDue : FnScope ["_law_base", "_law_many", "_law_order", "_law_start", "_law_ends", "_law_said", "_law_here", "_law_k"] ["_law_base", "_law_many", "_law_order", "_law_start"] (defScope sDue) := ⟨rfl, rfl, rfl, by decide +kernel, rfl, by decide +kernel, by decide +kernel⟩
theorem ok_due {f : Addr} {fd : FuncData} (F : Fun K "_law_due" "_law_due" sDue f fd) (B : Blt mg) : FnOk P w K mg base CX0 1 f fd ["_law_base", "_law_many", "_law_order", "_law_start"] (spDue K) := by
  refine F.ok scDue (fun vs H Q E h => ?_) (fun cdv A outer s H vs Q E hr h => ?_)
  · obtain ⟨b, many, o, order, start, rfl, _⟩ := h
    rfl
  · obtain ⟨b, many, o, order, start, rfl, ho, m1, m2, lt, nd, fs, k⟩ := h
    refine ⟨_, pss_cons (ps_par3 (i := 4) (j := 5) (l := 6) rfl scDue.nd rfl rfl rfl (by decide) (by decide) (by decide) rfl rfl rfl (pa_cons (pe_op op_rep (pe_lst (pa_cons pe_non pa_nil)) (pv 1)) (pa_cons (pe_op op_rep (pe_lst (pa_cons (pe_tup pa_nil) pa_nil)) (pv 1)) (pa_cons (pv 3) pa_nil))) (by rfl))
      (pss_cons (ps_for PassesOwn.never rfl (pi_list (pv 2)) (pg_name (i := 7) scDue.nd rfl (Or.inl rfl))
        (pss_cons (ps_asg (pe_tup (pa_cons (pv 7) (pa_cons (pe_tup (pa_cons (pv 6) (pa_cons (pv 7) pa_nil))) pa_nil))) (pg_sub (pv 5) (pv 7) set_list))
        (pss_cons (ps_asg (pe_tup (pa_cons pe_str (pa_cons (pe_ifExp (pt_cmpR op_ne (pv 6) (pv 0) (nomark _)) (pv 7) pe_str) pa_nil))) (pg_sub (pv 4) (pv 7) set_list))
        (pss_one (ps_set (i := 6) scDue.nd rfl (.inl rfl) (pe_op op_add (pv 0) (pv 7)))))))
      (pss_one (ps_ret (pe_tup (pa_cons (pe_callTy call_tuple_of (by rfl) B.tuple (by decide +kernel) (pa_cons (pv 4) pa_nil)) (pa_cons (pe_callTy call_tuple_of (by rfl) B.tuple (by decide +kernel) (pa_cons (pv 5) pa_nil)) (pa_cons (pv 6) pa_nil))))))), ?_⟩
    have mr (x : V) : ([x] : List V).length * ((many : Nat) : Int).toNat ≤ sizeLine := by
      rw [sizeLine_eq, List.length_singleton]
      omega
    have m63 : ((many : Nat) : Int) < 2 ^ 63 := by omega
    refine ⟨small_sz (by decide), fun l0 h0 => ⟨_, rfl, l0, (many : Nat), [.non], rfl, rfl, upd_same, by omega, m63, mr _, fun p hp => ?_⟩⟩
    refine ⟨small_sz (by decide), fun u0 hu0 => ⟨small_sz (n := 1) (by decide), fun l1 h1 => ⟨_, rfl, l1, (many : Nat), [.ref u0], rfl, rfl, upd_same, by omega, m63, mr _, fun q hq => ⟨_, rfl, _, _, _, rfl, ?_⟩⟩⟩⟩
    have e0 := rep_len many V.non
    have e1 := rep_len many (V.ref u0)
    generalize (List.replicate ((many : Nat) : Int).toNat [V.non]).flatten = es0 at *
    generalize (List.replicate ((many : Nat) : Int).toNat [V.ref u0]).flatten = ss0 at *
    have s1 : Same H (upd H l0 (.lst [.non])) := same_new h0
    have p0 : H p = none := s1.free hp
    have s2 : Same H (upd (upd H l0 (.lst [.non])) p (.lst es0)) := s1.trans (same_new hp)
    have s3 := same_new (o := .tup []) hu0
    have s4 := s3.trans (same_new (o := .lst [.ref u0]) h1)
    have q0 : H q = none := (s2.trans s4).free hq
    have pq : p ≠ q := fun e => by
      have z := s4 _ _ (upd_same (H := upd H l0 (.lst [.non])) (a := p) (o := .lst es0))
      subst e
      rw [hq] at z
      cases z
    have S0 : Same H (upd (upd (upd (upd (upd H l0 (.lst [.non])) p (.lst es0)) u0 (.tup [])) l1 (.lst [.ref u0])) q (.lst ss0)) := (s2.trans s4).trans (same_new hq)
    have P0 : (upd (upd (upd (upd (upd H l0 (.lst [.non])) p (.lst es0)) u0 (.tup [])) l1 (.lst [.ref u0])) q (.lst ss0)) p = some (.lst es0) := same_new hq _ _ (s4 _ _ upd_same)
    have Q0 : (upd (upd (upd (upd (upd H l0 (.lst [.non])) p (.lst es0)) u0 (.tup [])) l1 (.lst [.ref u0])) q (.lst ss0)) q = some (.lst ss0) := upd_same
    generalize upd (upd (upd (upd (upd H l0 (.lst [.non])) p (.lst es0)) u0 (.tup [])) l1 (.lst [.ref u0])) q (.lst ss0) = G at *
    refine ⟨_, rfl, o, rfl, ⟨_, S0.seq ho⟩, ?_⟩
    refine for_list (K := K) (a := o) (xs := order.map fun k => V.int (k : Nat)) (fun j σ H' => ∃ (r : Option V) (es ss : List V), σ = [some (.int b), some (.int (many : Nat)), some (.ref o), some start, some (.ref p), some (.ref q), some (hereAt b order start j), r] ∧ Same H H' ∧ H' p = some (.lst es) ∧ H' q = some (.lst ss) ∧ es.length = many ∧ ss.length = many ∧ DueAt b order start es ss H' j)
      ⟨_, es0, ss0, rfl, S0, P0, Q0, e0, e1, fun i k _ z => absurd z (by omega)⟩ (fun j σ H' _ ⟨_, _, _, _, z, _⟩ => z.seq ho) ?_ ?_
    · rintro j x σ H4 hx ⟨r, es, ss, rfl, S4, P4, Q4, le, ls, due⟩
      obtain ⟨k, hk, rfl⟩ : ∃ k, order[j]? = some k ∧ x = V.int (k : Nat) := by
        rw [List.getElem?_map] at hx
        obtain ⟨z, h1, h2⟩ := Option.map_eq_some_iff.mp hx
        exact ⟨z, h1, h2.symm⟩
      have km : k < many := lt k (List.mem_of_getElem? hk)
      have ixn {zs : List V} (hz : zs.length = many) : ixN zs.length ((k : Nat) : Int) = some k := by
        unfold ixN
        rw [if_pos (by omega), if_pos (by omega), Int.toNat_natCast]
      refine ⟨_, rfl, _, rfl, _, rfl, two_sz, fun tt htt => ⟨two_sz, fun ts hts => ?_⟩⟩
      have t1 := same_new (o := .tup [hereAt b order start j, .int (k : Nat)]) htt
      have t2 := t1.trans (same_new (o := .tup [.int (k : Nat), .ref tt]) hts)
      refine ⟨_, rfl, _, rfl, q, ss, (k : Nat), k, rfl, rfl, t2 _ _ Q4, ixn ls, ?_⟩
      have fa := hereAt_flat (b := b) (order := order) fs j
      have ct : scal (hereAt b order start j) (.int b) = true := by
        rcases fa with ⟨z, e⟩ | ⟨z, e⟩ <;> rw [e] <;> rfl
      refine ⟨_, rfl, _, rfl, ct, _, rfl, ?_⟩
      have tq : ts ≠ q := fun e => by
        rw [e, t1 _ _ Q4] at hts
        cases hts
      have ttq : tt ≠ q := fun e => by
        rw [e, Q4] at htt
        cases htt
      have ts' : (upd (upd (upd H4 tt (.tup [hereAt b order start j, .int (k : Nat)])) ts (.tup [.int (k : Nat), .ref tt])) q (.lst (ss.set k (.ref ts)))) ts = some (.tup [.int (k : Nat), .ref tt]) := (upd_ne tq).trans upd_same
      have tt' : (upd (upd (upd H4 tt (.tup [hereAt b order start j, .int (k : Nat)])) ts (.tup [.int (k : Nat), .ref tt])) q (.lst (ss.set k (.ref ts)))) tt = some (.tup [hereAt b order start j, .int (k : Nat)]) := (upd_ne ttq).trans (same_new hts _ _ upd_same)
      have q' : (upd (upd (upd H4 tt (.tup [hereAt b order start j, .int (k : Nat)])) ts (.tup [.int (k : Nat), .ref tt])) q (.lst (ss.set k (.ref ts)))) q = some (.lst (ss.set k (.ref ts))) := upd_same
      have kp (c : Addr) (oo : HO) (h : H4 c = some oo) (hc : c ≠ q) : (upd (upd (upd H4 tt (.tup [hereAt b order start j, .int (k : Nat)])) ts (.tup [.int (k : Nat), .ref tt])) q (.lst (ss.set k (.ref ts)))) c = some oo := (upd_ne hc).trans (t2 _ _ h)
      generalize upd (upd (upd H4 tt (.tup [hereAt b order start j, .int (k : Nat)])) ts (.tup [.int (k : Nat), .ref tt])) q (.lst (ss.set k (.ref ts))) = G1 at *
      have P1 := kp _ _ P4 pq
      have keep (c : Addr) (xs : List V) (x : V) (te : Addr) (hte : G1 te = none) (h : G1 c = some (.tup xs)) : (upd (upd G1 te (.tup [.str "told", x])) p (.lst (es.set k (.ref te)))) c = some (.tup xs) := by
        rw [upd_ne (ne_of h P1 (by intro z; cases z))]
        exact same_new hte _ _ h
      have fin (x : V) (hx : x = toldN b k (hereAt b order start j)) (te : Addr) (hte : G1 te = none) : ∃ (r : Option V) (es' ss' : List V), [some (.int b), some (.int (many : Nat)), some (.ref o), some start, some (.ref p), some (.ref q), some (V.int (b + (k : Nat))), some (V.int (k : Nat))] = [some (.int b), some (.int (many : Nat)), some (.ref o), some start, some (.ref p), some (.ref q), some (hereAt b order start (j + 1)), r] ∧
          Same H (upd (upd G1 te (.tup [.str "told", x])) p (.lst (es.set k (.ref te)))) ∧ (upd (upd G1 te (.tup [.str "told", x])) p (.lst (es.set k (.ref te)))) p = some (.lst es') ∧ (upd (upd G1 te (.tup [.str "told", x])) p (.lst (es.set k (.ref te)))) q = some (.lst ss') ∧ es'.length = many ∧ ss'.length = many ∧ DueAt b order start es' ss' (upd (upd G1 te (.tup [.str "told", x])) p (.lst (es.set k (.ref te)))) (j + 1) := by
        refine ⟨_, es.set k (.ref te), ss.set k (.ref ts), by rw [hereAt_next hk], fun c oo h => ?_, upd_same, ?_, by rw [List.length_set]; exact le, by rw [List.length_set]; exact ls, fun i k' hk' hi => ?_⟩
        · rw [upd_ne (ne_of_none h p0)]
          exact same_new hte _ _ (kp _ _ (S4 _ _ h) (ne_of_none h q0))
        · rw [upd_ne (Ne.symm pq)]
          exact same_new hte _ _ q'
        · by_cases hij : i = j
          · subst hij
            rw [hk] at hk'
            cases hk'
            refine ⟨te, ts, tt, ?_, ?_, ?_, keep _ _ _ _ hte ts', keep _ _ _ _ hte tt'⟩
            · rw [List.getElem?_set_self (by omega)]
            · rw [List.getElem?_set_self (by omega)]
            · rw [upd_ne (fun z => by rw [z, P1] at hte; cases hte), upd_same, hx]
          · have ne : k ≠ k' := fun z => by
              subst z
              exact hij (nodup_at nd hk' hk)
            obtain ⟨te', ts2, tt2, a1, a2, a3, a4, a5⟩ := due i k' hk' (by omega)
            refine ⟨te', ts2, tt2, ?_, ?_, keep _ _ _ _ hte (kp _ _ a3 (ne_of a3 Q4 (by intro z; cases z))), keep _ _ _ _ hte (kp _ _ a4 (ne_of a4 Q4 (by intro z; cases z))), keep _ _ _ _ hte (kp _ _ a5 (ne_of a5 Q4 (by intro z; cases z)))⟩
            · rw [List.getElem?_set_ne ne]
              exact a1
            · rw [List.getElem?_set_ne ne]
              exact a2
      by_cases c : hereAt b order start j = .int b
      · rw [decide_eq_true c]
        have hx : V.str "first" = toldN b k (hereAt b order start j) := (if_pos c).symm
        exact iteF ⟨two_sz, fun te hte => ⟨_, rfl, _, rfl, p, es, (k : Nat), k, rfl, rfl, same_new hte _ _ P1, ixn le, _, rfl, _, rfl, b, (k : Nat), rfl, rfl, fin _ hx te hte⟩⟩
      · rw [decide_eq_false c]
        have hx : V.int (k : Nat) = toldN b k (hereAt b order start j) := (if_neg c).symm
        exact iteT ⟨_, rfl, two_sz, fun te hte => ⟨_, rfl, _, rfl, p, es, (k : Nat), k, rfl, rfl, same_new hte _ _ P1, ixn le, _, rfl, _, rfl, b, (k : Nat), rfl, rfl, fin _ hx te hte⟩⟩
    · rintro σ H4 ⟨r, es, ss, rfl, S4, P4, Q4, le, ls, due⟩
      refine ⟨_, rfl, p, es, rfl, .inl ⟨SqL.of P4, fun e he => ⟨_, rfl, q, ss, rfl, .inl ⟨SqL.of (same_new he _ _ Q4), fun t ht => ⟨_, rfl, small_sz (n := 3) (by decide), fun u hu => ?_⟩⟩⟩⟩⟩
      have u1 := same_new (o := .tup es) he
      have u2 := same_new (o := .tup ss) ht
      have u3 := same_new (o := .tup [.ref e, .ref t, hereAt b order start (order.map fun k => V.int (k : Nat)).length]) hu
      have u := u1.trans (u2.trans u3)
      rw [List.length_map] at *
      refine k _ _ _ es ss _ (S4.trans u) upd_same ((u2.trans u3) _ _ upd_same) (u3 _ _ upd_same) le ls fun i k hk => ?_
      obtain ⟨te, ts, tt, a1, a2, a3, a4, a5⟩ := due i k hk (List.getElem?_eq_some_iff.mp hk).1
      exact ⟨te, ts, tt, a1, a2, u _ _ a3, u _ _ a4, u _ _ a5⟩
end
end TW
namespace L2
open PySem PySem.Spec PyProof.Rows
theorem fn_more {P : Program} {w : World} {K : PySem.W.Frag} {mg : Str → Option Value} {base : Heap} {CX : CXT} {k k' : Nat} {f : Addr} {fd : FuncData} {ps : List Str} {sp : Sp} (F : FnOk P w K mg base CX k f fd ps sp) (h : k ≤ k') : FnOk P w K mg base CX k' f fd ps sp :=
  ⟨F.len, fun A outer s H args us vs Q E hr => F.run A outer s H args us vs Q E (hr.mono h)⟩
/-- a method, as it is called -/
def MethOk (P : Program) (w : World) (K : PySem.W.Frag) (mg : Str → Option Value) (base : Heap) (CX : CXT) (k : Nat) (C : Addr) (m : Str) (ps : List Str) (sp : Sp) : Prop := ∃ f fd, FnOk P w K mg base CX k f fd ps sp ∧ Meth K C m f ∧ Binds K fd ps []
/-- a def of the module, as it is called -/
def GlobOk (P : Program) (w : World) (K : PySem.W.Frag) (mg : Str → Option Value) (base : Heap) (CX : CXT) (k : Nat) (x : Str) (ps : List Str) (sp : Sp) : Prop := ∃ f fd, FnOk P w K mg base CX k f fd ps sp ∧ mg x = some (.ref f) ∧ PySem.W.keepIn K (.ref f) = true ∧ Binds K fd ps []
end L2
namespace TW
open PySem PySem.Spec PyProof.Rows L2
abbrev sShops : Stmt := top 72
section
variable {P : Program} {w : World} {K : PySem.W.Frag} {mg : Str → Option Value} {base : Heap} {C CS CP CH CV CR CT CW CC pS g t0 : Addr} {S : Addr → Option Sp} {Rel : Hp → V → V → Bool → Prop} {N kw n : Nat}
/-- what is called of runs -/
structure RunFns (P : Program) (w : World) (K : PySem.W.Frag) (mg : Str → Option Value) (base : Heap) (C CS CP CH CV CR CT CW CC pS : Addr) (S : Addr → Option Sp) (Rel : Hp → V → V → Bool → Prop) (N kw n : Nat) : Prop where
  txt : RTxt K CR
  new : ∃ f fd, Mk K CR f ∧ FnOk P w K mg base CX0 N f fd ["self", "shop"] (spRI K CR CS CT (spCome P w K mg base C CS CP CH CV kw n)) ∧ mg "Run" = some (.ref CR) ∧ Binds K fd ["self", "shop"] []
  can : MethOk P w K mg base CX0 N CR "can" ["self"] (spCan K CR CT CP Rel)
  go : MethOk P w K mg base (L2.CX P w) N CR "go" ["self", "k"] (spGo P w K CR CT CP CW CC pS S Rel (spCome P w K mg base C CS CP CH CV kw n))
  said : MethOk P w K mg base (L2.CX P w) N CR "said" ["self", "k"] (spOfPlace K CR CT CP CW (fun y => .ref y.tw))
  ends : MethOk P w K mg base CX0 N CR "ends" ["self"] (spEnds K CR CT CP)
/-- a shop of one work with one cell -/
theorem mk_cells {nm : Str} {v : V} (ht0 : ∀ H, SqT K H t0 []) (hn : isW nm = true) (hv : FlatB v) {H G2 : Hp} {l d x dx : Addr} {Q : VK} {E : XK} (s2 : Same H G2) (hl : G2 l = some (.lst [.ref g])) (hd : G2 d = some (.dK [(Sum.inr nm, v)])) (h1 : G2 x = none) (h2 : G2 dx = none) (ne : dx ≠ x)
    (k : ∀ (S : SS) (G : Hp), Same H G → ShopAt K CS G x S → S.works = [.ref g] → S.many = 1 → S.cellN = [nm] → S.cells = [(Sum.inr nm, v)] → S.locks = [] → S.beltN = [] → S.belts = [] → Q .non G) :
    spSI K CS n [.ref x, .ref l, .ref d, .ref t0, .non, .int 24, .int 400] (upd (upd G2 dx (.own x)) x (.ins CS dx [])) Q E := by
  have s1 : Same G2 (upd (upd G2 dx (.own x)) x (.ins CS dx [])) := fun b o e => by
    rw [upd_ne (ne_of_none e h1), upd_ne (ne_of_none e h2)]
    exact e
  have Z : Good K G2 n ⟨[.ref g], [(Sum.inr nm, v)], [nm], [], [], [], 24, 400⟩ (.ref l) (.ref d) (.ref t0) .non := ⟨⟨l, rfl, .inl (SqL.of hl)⟩, Nat.le_refl _, (by show 1 ≤ 4; decide), .inr ⟨d, rfl, .inl hd⟩, rfl, ⟨t0, rfl, .inr (ht0 _)⟩, .inl ⟨rfl, rfl⟩, rfl, List.nodup_cons.mpr ⟨List.not_mem_nil, List.nodup_nil⟩, fun z hz => by
      rw [List.mem_singleton.mp (show z ∈ [nm] from hz)]
      exact hn, (by show 1 ≤ 64; decide), fun kv hkv H' tk => by
      rw [List.mem_singleton.mp hkv]
      exact hv.vn, fun kv hkv => (nomatch hkv), ⟨by show (1 : Int) ≤ 24; decide, by show (24 : Int) ≤ 40; decide⟩, ⟨by show (1 : Int) ≤ 400; decide, by show (400 : Int) ≤ 2000; decide⟩⟩
  exact ⟨x, dx, _, _, _, _, _, rfl, upd_same, Z.same s1, fun wt cd lt bd G f A => k _ G (fun b o e => f b o (ne_of_none (s2 _ _ e) h1) (s1 _ _ (s2 _ _ e))) A rfl rfl rfl rfl rfl rfl rfl⟩
/-- a shop of one work with one lock -/
theorem mk_locks {nm : Str} (hn : isW nm = true) {H G2 : Hp} {l d x dx : Addr} {Q : VK} {E : XK} (s2 : Same H G2) (hl : G2 l = some (.lst [.ref g])) (hd : G2 d = some (.lst [.str nm])) (h1 : G2 x = none) (h2 : G2 dx = none) (ne : dx ≠ x)
    (k : ∀ (S : SS) (G : Hp), Same H G → ShopAt K CS G x S → S.works = [.ref g] → S.many = 1 → S.cellN = [] → S.cells = [] → S.locks = [nm] → S.beltN = [] → S.belts = [] → Q .non G) :
    spSI K CS n [.ref x, .ref l, .non, .ref d, .non, .int 24, .int 400] (upd (upd G2 dx (.own x)) x (.ins CS dx [])) Q E := by
  have s1 : Same G2 (upd (upd G2 dx (.own x)) x (.ins CS dx [])) := fun b o e => by
    rw [upd_ne (ne_of_none e h1), upd_ne (ne_of_none e h2)]
    exact e
  have Z : Good K G2 n ⟨[.ref g], [], [], [nm], [], [], 24, 400⟩ (.ref l) .non (.ref d) .non := ⟨⟨l, rfl, .inl (SqL.of hl)⟩, Nat.le_refl _, (by show 1 ≤ 4; decide), .inl ⟨rfl, rfl⟩, rfl, ⟨d, rfl, .inl (SqL.of hd)⟩, .inl ⟨rfl, rfl⟩, rfl, List.nodup_cons.mpr ⟨List.not_mem_nil, List.nodup_nil⟩, fun z hz => by
      rw [List.mem_singleton.mp (show z ∈ [nm] from hz)]
      exact hn, (by show 1 ≤ 64; decide), fun kv hkv => (nomatch hkv), fun kv hkv => (nomatch hkv), ⟨by show (1 : Int) ≤ 24; decide, by show (24 : Int) ≤ 40; decide⟩, ⟨by show (1 : Int) ≤ 400; decide, by show (400 : Int) ≤ 2000; decide⟩⟩
  exact ⟨x, dx, _, _, _, _, _, rfl, upd_same, Z.same s1, fun wt cd lt bd G f A => k _ G (fun b o e => f b o (ne_of_none (s2 _ _ e) h1) (s1 _ _ (s2 _ _ e))) A rfl rfl rfl rfl rfl rfl rfl⟩
theorem scShops : FnScope ["_law_draws", "_law_kinds", "_law_turn", "_law_shop", "_law_due_here", "_law_run"] ["_law_draws"] (defScope sShops) := ⟨rfl, rfl, rfl, by decide +kernel, rfl, by decide +kernel, by decide +kernel⟩
/-- a run of one work that is at its end -/
structure FinS (K : PySem.W.Frag) (CR CT CP : Addr) (G : Hp) (r : Addr) (R : RS) (y : PS) (d : V) : Prop where
  run : RunAt K CR CT CP G r R
  pl : R.places = [y]
  pend : y.pend = .non
  fin : ∃ t, y.fin = .ref t ∧ SqT K G t [.str "told", .int 0]
  words : ∃ z, y.words = [z] ∧ ((z = d ∧ FlatB d) ∨ ∃ u u', z = .ref u ∧ d = .ref u' ∧ SqT K G u [.str "none", .str "x"] ∧ SqT K G u' [.str "none", .str "x"])
theorem same_two {H : Hp} {d : Addr} {o o2 : HO} (h : H d = none) : Same H (upd (upd H d o) d o2) := fun b u e => by
  rw [upd_ne (ne_of_none e h), upd_ne (ne_of_none e h)]
  exact e
def spShops : Sp := fun vs H Q _ => ∃ (p : Addr) (a b c : Int), vs = [.ref p] ∧ H p = some (.lst [.int a, .int b, .int c]) ∧ ∀ H', Q (.bl true) H'
theorem ok_shops {f fI fG fK fE : Addr} {fd fdI fdG fdK fdE : FuncData} (F : Fun K "_law_in_shops" "_law_in_shops" sShops f fd) (B : Blt mg)
    (MS : Mk K CS fI) (GI : FnOk P w K mg base CX0 N fI fdI psSI (spSI K CS n)) (mS : mg "Shop" = some (.ref CS)) (FI : FunSI K t0 fI fdI) (ht0 : ∀ H, SqT K H t0 [])
    (GG : FnOk P w K mg base (L2.CX P w) (n + 6) fG fdG ["_law_hand"] (spTry K C CS CH)) (mG : mg "_law_trying" = some (.ref fG)) (bG : Binds K fdG ["_law_hand"] []) (aG : PySem.W.FnAt fG base) (hx : PySem.W.exmOne K (.ref CH) (.ref CH) = some true)
    (GK : FnOk P w K mg base CX0 N fK fdK ["_law_draws", "_law_xs"] (spPick K)) (mK : mg "_law_pick" = some (.ref fK)) (kK : PySem.W.keepIn K (.ref fK) = true) (bK : Binds K fdK ["_law_draws", "_law_xs"] [])
    (GE : FnOk P w K mg base CX0 N fE fdE ["_law_found", "_law_due_here"] (spSame K 3)) (mE : mg "_law_same" = some (.ref fE)) (kE : PySem.W.keepIn K (.ref fE) = true) (bE : Binds K fdE ["_law_found", "_law_due_here"] [])
    (RF : RunFns P w K mg base C CS CP CH CV CR CT CW CC pS S Rel N (n + 6) n) {fL : Addr} (hk : KDct K w pS "look" (.ref fL)) (hs : S fL = some (spStep K CT dLook)) :
    FnOk P w K mg base CX0 (N + 2) f fd ["_law_draws"] spShops := by
  refine F.ok scShops (fun vs H Q E h => ?_) (fun cdv A outer s H vs Q E hr h => ?_)
  · obtain ⟨p, a, b, c, rfl, _⟩ := h
    rfl
  · obtain ⟨p, a, b, c, rfl, hp, k⟩ := h
    have hr0 : Room N _ := hr.mono (by omega)
    obtain ⟨_, kb1⟩ := kb_cells FI
    obtain ⟨_, kb2⟩ := kb_locks FI
    obtain ⟨X, ⟨fR, fdR, MR, GR, mR, bR⟩, ⟨fA, fdA, GA, hA, bA⟩, ⟨fO, fdO, GO, hO, bO⟩, ⟨fY, fdY, GY, hY, bY⟩, ⟨fZ, fdZ, GZ, hZ, bZ⟩⟩ := RF
    refine ⟨_, pss_cons (ps_set (i := 1) scShops.nd rfl (.inl rfl) (pe_lst
        (pa_cons (pe_tup (pa_cons (pe_makeK (n := 1) MS GI hr rfl mS kb1 pass0 (pa_cons (pe_lst (pa_cons (pe_glob (v := .ref fG) rfl mG rfl) pa_nil)) pa_nil) (pk_cons (pe_disp (pps_cons pe_str pe_int pps_nil) (by rfl) (by rfl) (fun z => by cases z) (by decide)) pk_nil)) (pa_cons pe_int pa_nil)))
        (pa_cons (pe_tup (pa_cons (pe_makeK (n := 1) MS GI hr rfl mS kb2 pass0 (pa_cons (pe_lst (pa_cons (pe_glob (v := .ref fG) rfl mG rfl) pa_nil)) pa_nil) (pk_cons (pe_lst (pa_cons pe_str pa_nil)) pk_nil)) (pa_cons (pe_tup (pa_cons pe_str (pa_cons pe_str pa_nil))) pa_nil))) pa_nil))))
      (pss_cons (ps_expr (pe_bm PySem.F.plainAttrs_list PySem.F.slot_list_extend PySem.F.type_list_extend mt_extend (pv 1) (pa_cons (pe_lst
        (pa_cons (pe_tup (pa_cons (pe_makeK (n := 1) MS GI hr rfl mS kb1 pass0 (pa_cons (pe_lst (pa_cons (pe_glob (v := .ref fG) rfl mG rfl) pa_nil)) pa_nil) (pk_cons (pe_disp (pps_cons pe_str pe_bl pps_nil) (by rfl) (by rfl) (fun z => by cases z) (by decide)) pk_nil)) (pa_cons pe_bl pa_nil)))
        (pa_cons (pe_tup (pa_cons (pe_makeK (n := 1) MS GI hr rfl mS kb1 pass0 (pa_cons (pe_lst (pa_cons (pe_glob (v := .ref fG) rfl mG rfl) pa_nil)) pa_nil) (pk_cons (pe_disp (pps_cons pe_str pe_int pps_nil) (by rfl) (by rfl) (fun z => by cases z) (by decide)) pk_nil)) (pa_cons (pe_tup (pa_cons pe_str (pa_cons pe_str pa_nil))) pa_nil))) pa_nil))) pa_nil)))
      (pss_cons (ps_for PassesOwn.never rfl (pi_range1 (by rfl) B.range (pa_cons pe_int pa_nil)) (pg_name (i := 2) scShops.nd rfl (Or.inl rfl))
        (pss_cons (ps_asg (pe_call GK hr0 rfl mK kK bK .nil pass0 (pa_cons (pv 0) (pa_cons (pv 1) pa_nil))) (pg_tup (n := 2) rfl (pgs_cons (pg_name (i := 3) scShops.nd rfl (Or.inl rfl)) (pgs_cons (pg_name (i := 4) scShops.nd rfl (Or.inl rfl)) pgs_nil))))
        (pss_cons (ps_set (i := 5) scShops.nd rfl (.inl rfl) (pe_make MR GR hr rfl mR bR .nil pass0 (pa_cons (pv 3) pa_nil)))
        (pss_cons (ps_if (pt_cmpR (op_neD hr.units) (pe_meth0 (pv 5) X.cl hA GA hr0 bA .nil pass0) (pe_lst pa_nil) (nomark _)) (pss_one (ps_expr (pe_meth (pv 5) X.cl hO GO hr0 bO .nil passN (pa_cons pe_int pa_nil)))) pss_nil)
        (pss_one (ps_if (pt_not (pt_val (pe_call GE hr0 rfl mE kE bE .nil pass0 (pa_cons (pe_lst (pa_cons (pe_meth (pv 5) X.cl hY GY hr0 bY .nil passN (pa_cons pe_int pa_nil)) (pa_cons (pe_meth0 (pv 5) X.cl hZ GZ hr0 bZ .nil pass0) (pa_cons (pe_meth0 (pv 5) X.cl hA GA hr0 bA .nil pass0) pa_nil))))
          (pa_cons (pe_lst (pa_cons (pe_tup (pa_cons (pv 4) pa_nil)) (pa_cons (pe_tup (pa_cons (pe_tup (pa_cons pe_str (pa_cons pe_int pa_nil))) pa_nil)) (pa_cons (pe_lst pa_nil) pa_nil)))) pa_nil))))) (pss_one (ps_ret pe_bl)) pss_nil))))))
      (pss_one (ps_ret pe_bl)))), ?_⟩
    have nE : ∀ (m : Str) {v0 v1 v2 v3 : V}, (¬ m = ("shop" : Str)) → (¬ m = ("things" : Str)) → (¬ m = ("places" : Str)) → (¬ m = ("done" : Str)) → (rF v0 v1 v2 v3).lookup m = none := fun m _ _ _ _ => rF_no
    have one : 1 ≤ sizeLine := small_sz (n := 1) (by decide)
    refine ⟨one, fun l1 hl1 d1 hd1 => ⟨upd_same, [(Sum.inr "x", .int 5)], rfl, (by show 1 ≤ 15; decide), rfl, rfl, fun x1 dx1 a1 a2 a3 => ?_⟩⟩
    have z1 := same_new (o := .lst [.ref fG]) hl1
    refine mk_cells (g := fG) (nm := "x") (v := .int 5) ht0 (by decide +kernel) (.inl ⟨5, rfl⟩) (H := H) (z1.trans (same_two hd1)) (same_two hd1 _ _ upd_same) upd_same a1 a2 a3 fun S1 G1 s1 A1 w1 m1 n1 c1 k1 b1 e1 => ⟨rfl, two_sz, fun t1 ht1 => ?_⟩
    have s1t := s1.trans (same_new (o := .tup [.ref x1, .int 5]) ht1)
    have K1 : KindOk K CS fG (upd G1 t1 (.tup [.ref x1, .int 5])) t1 := ⟨x1, S1, .int 5, SqT.of upd_same, A1.same (same_new ht1), w1, m1, by rw [k1]; exact List.nodup_nil, b1, by rw [k1]; exact Nat.zero_le _, e1, .inl ⟨by rw [n1]; exact List.mem_cons_self .., c1, k1, .inl ⟨5, rfl⟩⟩⟩
    generalize upd G1 t1 (.tup [.ref x1, .int 5]) = H1 at *
    refine ⟨one, fun l2 hl2 => ⟨one, fun d2 hd2 => ⟨rfl, rfl, fun x2 dx2 a1 a2 a3 => ?_⟩⟩⟩
    have z2 := same_new (o := .lst [.ref fG]) hl2
    refine mk_locks (g := fG) (nm := "x") (by decide +kernel) (H := H1) (z2.trans (same_new hd2)) (same_new hd2 _ _ upd_same) upd_same a1 a2 a3 fun S2 G2 s2 A2 w2 m2 n2 c2 k2 b2 e2 => ⟨rfl, two_sz, fun u2 hu2 => ⟨two_sz, fun t2 ht2 => ?_⟩⟩
    have q2 := (same_new (o := .tup [.str "none", .str "x"]) hu2).trans (same_new (o := .tup [.ref x2, .ref u2]) ht2)
    have s2t := s2.trans q2
    have K2 : KindOk K CS fG (upd (upd G2 u2 (.tup [.str "none", .str "x"])) t2 (.tup [.ref x2, .ref u2])) t2 := ⟨x2, S2, .ref u2, SqT.of upd_same, A2.same q2, w2, m2, by rw [k2]; exact List.nodup_cons.mpr ⟨List.not_mem_nil, List.nodup_nil⟩, b2, by rw [k2]; exact (by show 1 ≤ 1000; decide), e2, .inr ⟨by rw [n2]; exact List.not_mem_nil, u2, rfl, SqT.of (same_new ht2 _ _ upd_same)⟩⟩
    replace K1 := K1.same s2t
    generalize upd (upd G2 u2 (.tup [.str "none", .str "x"])) t2 (.tup [.ref x2, .ref u2]) = H2 at *
    refine ⟨two_sz, fun l hl => ?_⟩
    have sl := same_new (o := .lst [.ref t1, .ref t2]) hl
    have ll : (upd H2 l (.lst [.ref t1, .ref t2])) l = some (.lst [.ref t1, .ref t2]) := upd_same
    have pp := sl _ _ (s2t _ _ (s1t _ _ hp))
    have lp : l ≠ p := fun e => by
      rw [e, s2t _ _ (s1t _ _ hp)] at hl
      cases hl
    replace K1 := K1.same sl
    replace K2 := K2.same sl
    generalize upd H2 l (.lst [.ref t1, .ref t2]) = H3 at *
    refine ⟨_, rfl, .inl ⟨rfl, _, SqL.of ll⟩, ?_⟩
    refine ⟨one, fun l3 hl3 d3 hd3 => ⟨upd_same, [(Sum.inr "x", .bl true)], rfl, (by show 1 ≤ 15; decide), rfl, rfl, fun x3 dx3 a1 a2 a3 => ?_⟩⟩
    have z3 := same_new (o := .lst [.ref fG]) hl3
    refine mk_cells (g := fG) (nm := "x") (v := .bl true) ht0 (by decide +kernel) (.inr (.inr ⟨true, rfl⟩)) (H := H3) (z3.trans (same_two hd3)) (same_two hd3 _ _ upd_same) upd_same a1 a2 a3 fun S3 G3 s3 A3 w3 m3 n3 c3 k3 b3 e3 => ⟨rfl, two_sz, fun t3 ht3 => ?_⟩
    have s3t := s3.trans (same_new (o := .tup [.ref x3, .bl true]) ht3)
    have K3 : KindOk K CS fG (upd G3 t3 (.tup [.ref x3, .bl true])) t3 := ⟨x3, S3, .bl true, SqT.of upd_same, A3.same (same_new ht3), w3, m3, by rw [k3]; exact List.nodup_nil, b3, by rw [k3]; exact Nat.zero_le _, e3, .inl ⟨by rw [n3]; exact List.mem_cons_self .., c3, k3, .inr (.inr ⟨true, rfl⟩)⟩⟩
    replace K1 := K1.same s3t
    replace K2 := K2.same s3t
    replace ll := s3t _ _ ll
    replace pp := s3t _ _ pp
    generalize upd G3 t3 (.tup [.ref x3, .bl true]) = H4 at *
    refine ⟨one, fun l4 hl4 d4 hd4 => ⟨upd_same, [(Sum.inr "y", .int 1)], rfl, (by show 1 ≤ 15; decide), rfl, rfl, fun x4 dx4 a1 a2 a3 => ?_⟩⟩
    have z4 := same_new (o := .lst [.ref fG]) hl4
    refine mk_cells (g := fG) (nm := "y") (v := .int 1) ht0 (by decide +kernel) (.inl ⟨1, rfl⟩) (H := H4) (z4.trans (same_two hd4)) (same_two hd4 _ _ upd_same) upd_same a1 a2 a3 fun S4 G4 s4 A4 w4 m4 n4 c4 k4 b4 e4 => ⟨rfl, two_sz, fun u4 hu4 => ⟨two_sz, fun t4 ht4 => ?_⟩⟩
    have q4 := (same_new (o := .tup [.str "none", .str "x"]) hu4).trans (same_new (o := .tup [.ref x4, .ref u4]) ht4)
    have s4t := s4.trans q4
    have K4 : KindOk K CS fG (upd (upd G4 u4 (.tup [.str "none", .str "x"])) t4 (.tup [.ref x4, .ref u4])) t4 := ⟨x4, S4, .ref u4, SqT.of upd_same, A4.same q4, w4, m4, by rw [k4]; exact List.nodup_nil, b4, by rw [k4]; exact Nat.zero_le _, e4, .inr ⟨by rw [n4]; decide +kernel, u4, rfl, SqT.of (same_new ht4 _ _ upd_same)⟩⟩
    replace K1 := K1.same s4t
    replace K2 := K2.same s4t
    replace K3 := K3.same s4t
    replace ll := s4t _ _ ll
    replace pp := s4t _ _ pp
    generalize upd (upd G4 u4 (.tup [.str "none", .str "x"])) t4 (.tup [.ref x4, .ref u4]) = H5 at *
    refine ⟨two_sz, fun lx hlx => ?_⟩
    have sx := same_new (o := .lst [.ref t3, .ref t4]) hlx
    have xx : (upd H5 lx (.lst [.ref t3, .ref t4])) lx = some (.lst [.ref t3, .ref t4]) := upd_same
    replace K1 := K1.same sx
    replace K2 := K2.same sx
    replace K3 := K3.same sx
    replace K4 := K4.same sx
    replace ll := sx _ _ ll
    replace pp := sx _ _ pp
    generalize upd H5 lx (.lst [.ref t3, .ref t4]) = H6 at *
    refine ⟨l, lx, _, _, rfl, rfl, ll, xx, small_sz (n := 4) (by decide), ?_⟩
    have kpl : ∀ {ys : List V} {t : Addr}, KindOk K CS fG H6 t → KindOk K CS fG (upd H6 l (.lst ys)) t := fun {ys t} Z => Z.keep (tk_lst ll) fun sh S A => shop_tk (Bad := (· = l)) (fun b o nb e => by
        rw [upd_ne nb]
        exact e) (fun b e fs z => by
        subst e
        rw [ll] at z
        cases z) (fun b e kvs z => by
        subst e
        rw [ll] at z
        cases z) (tk_lst ll) A
    have J0 : ∀ t ∈ [t1, t2, t3, t4], KindOk K CS fG (upd H6 l (.lst ([.ref t1, .ref t2] ++ [.ref t3, .ref t4]))) t := fun t ht => by
      rcases List.mem_cons.mp ht with rfl | ht
      · exact kpl K1
      rcases List.mem_cons.mp ht with rfl | ht
      · exact kpl K2
      rcases List.mem_cons.mp ht with rfl | ht
      · exact kpl K3
      rcases List.mem_cons.mp ht with rfl | ht
      · exact kpl K4
      cases ht
    have pq : (upd H6 l (.lst ([.ref t1, .ref t2] ++ [.ref t3, .ref t4]))) p = some (.lst [.int a, .int b, .int c]) := (upd_ne (Ne.symm lp)).trans pp
    have lq : (upd H6 l (.lst ([.ref t1, .ref t2] ++ [.ref t3, .ref t4]))) l = some (.lst (([t1, t2, t3, t4] : List Addr).map V.ref)) := upd_same
    have tl : ([t1, t2, t3, t4] : List Addr).length = 4 := rfl
    clear K1 K2 K3 K4 s1 s2 s3 s4 s1t s2t s3t s4t q2 q4 z1 z2 z3 z4
    generalize [t1, t2, t3, t4] = ts at *
    generalize upd H6 l (.lst ([.ref t1, .ref t2] ++ [.ref t3, .ref t4])) = H7 at *
    refine ⟨_, rfl, by decide, by decide, ?_⟩
    refine for_range (lo := 0) (n := 6) (fun j σ H' => ∃ (q2 q3 q4 q5 : Option V) (a b c : Int), σ = [some (.ref p), some (.ref l), q2, q3, q4, q5] ∧ H' p = some (.lst [.int a, .int b, .int c]) ∧ H' l = some (.lst (ts.map V.ref)) ∧ ∀ t ∈ ts, KindOk K CS fG H' t)
      ⟨_, _, _, _, _, _, _, rfl, pq, lq, J0⟩ ?_ ?_
    · rintro j σ H' hj ⟨q2, q3, q4, q5, a, b, c, rfl, hp, hl, J⟩
      have lp2 : l ≠ p := lp
      refine ⟨_, rfl, _, rfl, p, l, a, b, c, ts.map V.ref, rfl, hp, SqL.of hl, by rw [List.length_map, tl]; decide, by rw [List.length_map, tl]; decide, fun a' b' c' => SqL.of ((upd_ne lp2).trans hl), fun j2 v a' b' c' hv => ?_⟩
      obtain ⟨t, ht, rfl⟩ : ∃ t, t ∈ ts ∧ v = V.ref t := by
        rw [List.getElem?_map] at hv
        obtain ⟨z, h1, h2⟩ := Option.map_eq_some_iff.mp hv
        exact ⟨z, List.mem_of_getElem? h1, h2.symm⟩
      have J1 : ∀ t ∈ ts, KindOk K CS fG (upd H' p (.lst [.int a', .int b', .int c'])) t := fun t ht => (J t ht).keep (tk_lst hp) fun sh S A => shop_tk (Bad := (· = p)) (fun b o nb e => by
        rw [upd_ne nb]
        exact e) (fun b e fs z => by
        subst e
        rw [hp] at z
        cases z) (fun b e kvs z => by
        subst e
        rw [hp] at z
        cases z) (tk_lst hp) A
      have hp1 : (upd H' p (.lst [.int a', .int b', .int c'])) p = some (.lst [.int a', .int b', .int c']) := upd_same
      have hl1 : (upd H' p (.lst [.int a', .int b', .int c'])) l = some (.lst (ts.map V.ref)) := (upd_ne lp2).trans hl
      generalize upd H' p (.lst [.int a', .int b', .int c']) = G0 at *
      obtain ⟨sh, S0, d, kt, kA, kw, km, knd, kbn, kll, kbe, kd⟩ := J1 t ht
      refine ⟨t, [.ref sh, d], rfl, kt, rfl, .ref sh, [d], rfl, d, [], rfl, rfl, ?_⟩
      refine ⟨_, rfl, fun r dx hr1 hdx hne => ?_⟩
      have s1 : Same G0 (upd (upd G0 dx (.own r)) r (.ins CR dx [])) := fun b o e => by
        rw [upd_ne (ne_of_none e hr1), upd_ne (ne_of_none e hdx)]
        exact e
      have ho : (upd (upd G0 dx (.own r)) r (.ins CR dx [])) r = some (.ins CR dx []) := upd_same
      have S1 := kA.same s1
      have J2 : ∀ t ∈ ts, KindOk K CS fG (upd (upd G0 dx (.own r)) r (.ins CR dx [])) t := fun t ht => (J1 t ht).same s1
      have hp2 := s1 _ _ hp1
      have hl2 := s1 _ _ hl1
      have d2 := seqT_same s1 kt
      have rp : p ≠ r := ne_of_none hp1 hr1
      have rl : l ≠ r := ne_of_none hl1 hr1
      generalize upd (upd G0 dx (.own r)) r (.ins CR dx []) = G1 at *
      refine ri_use (S := S0) (m := 1) (fun i => BTry K (decide (("x" : Str) ∈ S0.cellN)) (i : Nat)) (fun _ => AdTry S0) (fun _ => fG) hx (fun _ _ => btry_s) (fun _ _ => ⟨Nat.zero_le _, fun _ => rfl, fun a ha => (nomatch ha)⟩) (fun i hi => ?_) (fun i _ => work_try GG bG aG) ho S1 (by rw [km]; rfl) (by decide) knd (by rw [kbn]; exact List.nodup_nil) kll (by rw [kbe]; exact Nat.zero_le _) fun R G2 but RI esh ec eh er erows es el each ed _ _ => ⟨rfl, ?_⟩
      · obtain rfl : i = 0 := by omega
        rw [kw]
        rfl
      have hR := RI.at_
      have hp3 := but _ _ rp hp2
      have hl3 := but _ _ rl hl2
      have tk2 : TK K G1 G2 := fun a xs q => sqT_but ho ins_ntup.1 ins_ntup.2 but q
      have sk2 : ∀ sh S, ShopAt K CS G1 sh S → ShopAt K CS G2 sh S := fun sh S A => shop_tk (Bad := (· = r)) (fun b o nb e => but b o nb e) (fun b e fs z => by
        subst e
        rw [ho] at z
        injection z with z
        injection z with z1 z2 z3
        cases z3) (fun b e kvs z => by
        subst e
        rw [ho] at z
        cases z) tk2 A
      have S2 := sk2 _ _ S1
      have J3 : ∀ t ∈ ts, KindOk K CS fG G2 t := fun t ht => (J2 t ht).keep tk2 sk2
      obtain ⟨y, ey⟩ : ∃ y, R.places = [y] := by
        match h : R.places, el with
        | [y], _ => exact ⟨y, rfl⟩
      have y0 : R.places[0]? = some y := by
        rw [ey]
        rfl
      obtain ⟨ya, hB0⟩ := each 0 y y0
      have few : R.places.length ≤ 1000 := by
        rw [el]
        decide
      have oneY : ∀ (i : Nat) (y' : PS), R.places[i]? = some y' → y' = y := fun i y' e => by
        rw [ey] at e
        match i, e with
        | 0, e => exact (Option.some.inj e).symm
      have rne : ∀ {S : SS} {fs : List (Str × V)} {v : V}, HO.ins CR R.dx (rF (.ref R.sh) (.ref R.th) (.ref R.pl) (.ref R.dn)) ≠ HO.ins CS S.dx (("works", v) :: fs) := by
        intro S fs v z
        injection z with z1 z2 z3
        unfold rF at z3
        injection z3 with z4 z5
        injection z4 with z6 z7
        exact absurd z6 (by decide +kernel)
      rcases hB0 with ⟨hX, _, hfin, hwd, wt, hpd, hwt⟩ | ⟨_, _, a0, t0', h, _⟩ | ⟨hX, _, hpd, tf, u, hfin, htf, hwd, hu⟩
      · have hx0 : ("x" : Str) ∈ S0.cellN := of_decide_eq_true hX
        obtain ⟨kc, kl0, kf⟩ : S0.cells = [(Sum.inr ("x" : Str), d)] ∧ S0.locks = [] ∧ FlatB d := by
          rcases kd with ⟨_, h2, h3, h4⟩ | ⟨h, _⟩
          · exact ⟨h2, h3, h4⟩
          · exact absurd hx0 h
        refine ⟨_, rfl, r, _, _, rfl, hR.ob, nE "can" (by decide +kernel) (by decide +kernel) (by decide +kernel) (by decide +kernel), ?_⟩
        refine ⟨r, R, fun _ => true, rfl, hR, few, fun i y' e => ?_, fun D G3 hD s3 hDD => ⟨Nat.zero_le _, fun e he => ?_⟩⟩
        · rw [oneY i y' e, hpd]
          exact can_plain hwt (by decide +kernel) (by decide +kernel) (by decide +kernel) (by decide +kernel)
        have se := same_new (o := .lst []) he
        have sm := s3.trans se
        rw [el] at hDD
        refine ⟨.list [.int 0], .list [], .lst (SqL.of (se _ _ hDD)) (.cons (.int 0) .nil), .lst (SqL.of upd_same) .nil, rfl, rfl, _, rfl, ?_⟩
        refine iteT ?_
        have hR4 := hR.same sm
        have S4 := S2.same sm
        have hwt4 := seqT_same sm hwt
        have J4 : ∀ t ∈ ts, KindOk K CS fG (upd G3 e (.lst [])) t := fun t ht => (J3 t ht).same sm
        have d4 := seqT_same sm (tk2 _ _ d2)
        have hp4 := sm _ _ hp3
        have hl4 := sm _ _ hl3
        generalize upd G3 e (.lst []) = G4 at *
        refine ⟨_, rfl, r, _, _, rfl, hR4.ob, nE "go" (by decide +kernel) (by decide +kernel) (by decide +kernel) (by decide +kernel), ?_⟩
        refine go_use (n := 0) (a := d) (c := R.T.cells) (SSh := S0) (g := fG) (Adm := AdTry S0) (B := BTry K (decide (("x" : Str) ∈ S0.cellN)) ((0 : Nat) : Int)) btry_s hx (work_try GG bG aG) ⟨hR4, RI.ne⟩ (by rw [esh]; exact S4) y0 (by rw [kw]; rfl) (by rw [hpd]; exact can_plain hwt4 (by decide +kernel) (by decide +kernel) (by decide +kernel) (by decide +kernel)) ?_ (by rw [hpd]; exact does_look hwt4 (by rw [ec, kc]; rfl) hk hs) ?_ ?_ ?_ ?_ fun R' y' G5 b5 RI5 went ea hB5 => ?_
        · rw [ya]
          exact ⟨Nat.le_refl _, fun h => absurd hx0 h, fun a ha => by rw [List.mem_singleton.mp ha]; exact kf⟩
        · rw [ya]
          exact (by show 1 ≤ 100000; decide)
        · rw [ed]
          exact (by show 0 < sizeLine; exact one)
        · rw [ec, eh, kc, kl0]
          exact fun z => (nomatch z)
        · intro z
          rw [kbn] at er
          rw [← z, ec, kc] at er
          cases er
        have pr : p ≠ R.pl := ne_of hp4 hR4.p (by rw [ey]; intro z; cases z)
        have pd : p ≠ R.dn := ne_of hp4 hR4.d (by rw [ed]; intro z; cases z)
        have lr : l ≠ R.pl := ne_of hl4 hR4.p (by rw [ey]; intro z; injection z with z; have := congrArg List.length z; rw [List.length_map, tl] at this; cases this)
        have ld : l ≠ R.dn := ne_of hl4 hR4.d (by rw [ed]; intro z; injection z with z; have := congrArg List.length z; rw [List.length_map, tl] at this; cases this)
        replace hp := b5 _ _ rp pr pd hp4
        replace hl := b5 _ _ rl lr ld hl4
        have tk5 := run_tk hR4 b5
        have J : ∀ t ∈ ts, KindOk K CS fG G5 t := fun t ht => (J4 t ht).keep tk5 fun sh S A => shop_tk (Bad := fun b => b = r ∨ b = R.pl ∨ b = R.dn) (fun b o nb e => b5 _ _ (fun z => nb (.inl z)) (fun z => nb (.inr (.inl z))) (fun z => nb (.inr (.inr z))) e) (fun b e fs z => by
          rcases e with e | e | e
          · rw [e, hR4.ob] at z
            exact rne (Option.some.inj z)
          · rw [e, hR4.p] at z
            cases z
          · rw [e, hR4.d] at z
            cases z) (fun b e kvs z => by
          rcases e with e | e | e
          · rw [e, hR4.ob] at z
            cases z
          · rw [e, hR4.p] at z
            cases z
          · rw [e, hR4.d] at z
            cases z) tk5 A
        have F : FinS K CR CT CP G5 r R' y' d := by
          rcases hB5 with ⟨_, h, _⟩ | ⟨_, hpn, a1, tf, h1, h2, h3, h4⟩ | ⟨h, _⟩
          · rw [ea, ya] at h
            cases h
          · rw [ea, ya] at h1
            obtain rfl : d = a1 := by
              injection h1
            exact ⟨RI5.at_, by rw [went.places, ey]; rfl, hpn, ⟨tf, h3, h4⟩, d, h2, .inl ⟨rfl, kf⟩⟩
          · rw [hX] at h
            cases h
        clear hR hR4 RI but b5 went hB5 RI5 ey y0 each
        generalize hRR : R' = R2 at *
        generalize hYY : y' = y2 at *
        obtain ⟨tf, hfin, htf⟩ := F.fin
        obtain ⟨z, hwz, hz⟩ := F.words
        refine ⟨_, rfl, r, _, _, rfl, F.run.ob, nE "said" (by decide +kernel) (by decide +kernel) (by decide +kernel) (by decide +kernel), ?_⟩
        have pl1 : R2.places.length = 1 := by
          rw [F.pl]
          rfl
        refine ⟨r, R2, .int 0, true, rfl, F.run, whl_i, (fun z => nomatch z), fun _ => ⟨0, rfl, fun n' y' en ey' => ?_, fun z => absurd (by rw [pl1]; decide) z⟩⟩
        obtain rfl : n' = 0 := by omega
        obtain rfl : y2 = y' := by
          rw [F.pl] at ey'
          exact Option.some.inj ey'
        refine ⟨_, rfl, r, _, _, rfl, F.run.ob, nE "ends" (by decide +kernel) (by decide +kernel) (by decide +kernel) (by decide +kernel), r, R2, rfl, F.run, (by rw [pl1]; decide), fun te G6 hte s6 e6 => ?_⟩
        rw [F.pl] at e6
        have R6 := F.run.same s6
        refine ⟨_, rfl, r, _, _, rfl, R6.ob, nE "can" (by decide +kernel) (by decide +kernel) (by decide +kernel) (by decide +kernel), r, R2, fun _ => false, rfl, R6, (by rw [pl1]; decide), fun i y' e => ?_, fun D7 G7 hD7 s7 e7 => ?_⟩
        · rw [F.pl] at e
          match i, e with
          | 0, e =>
            obtain rfl := Option.some.inj e
            rw [F.pend]
            exact can_end
        rw [F.pl] at e7
        refine ⟨small_sz (n := 3) (by decide), fun m1 hm1 => ?_⟩
        refine ⟨_, rfl, one, fun a1 ha1 => ⟨two_sz, fun b1 hb1 => ⟨one, fun a2 ha2 => ⟨Nat.zero_le _, fun a3 ha3 => ⟨small_sz (n := 3) (by decide), fun m2 hm2 => ?_⟩⟩⟩⟩⟩
        have v1 := same_new (o := .lst [.ref y2.tw, .ref te, .ref D7]) hm1
        have v2 := same_new (o := .tup [d]) ha1
        have v3 := same_new (o := .tup [.str "told", .int 0]) hb1
        have v4 := same_new (o := .tup [.ref b1]) ha2
        have v5 := same_new (o := .lst []) ha3
        have v6 := same_new (o := .lst [.ref a1, .ref a2, .ref a3]) hm2
        have v56 := v5.trans v6
        have v46 := v4.trans v56
        have v36 := v3.trans v46
        have v26 := v2.trans v36
        have v16 := v1.trans v26
        have sA := (s6.trans s7).trans v16
        have M1 := v26 _ _ upd_same
        have A1 := v36 _ _ upd_same
        have B1 := v46 _ _ upd_same
        have A2 := v56 _ _ upd_same
        have A3 := v6 _ _ upd_same
        have W1 : SqT K G5 y2.tw [z] := by
          rw [← hwz]
          exact (F.run.e y2 (by rw [F.pl]; exact List.mem_cons_self ..)).w
        have E1 := seqT_same (K := K) (s7.trans v16) (SqT.of e6)
        have X7 := seqT_same sA htf
        have D1 := v16 _ _ e7
        replace W1 := seqT_same sA W1
        refine ⟨_, _, rfl, .lst (SqL.of M1) (SqL.of upd_same) rfl (by show 3 ≤ 1000; decide) fun i x y h1 h2 => ?_, fun G9 s9 => ?_⟩
        · match i, h1, h2 with
          | 0, h1, h2 =>
            cases h1
            cases h2
            refine .tup W1 (SqT.of A1) rfl (by show 1 ≤ 1000; decide) fun i x y h1 h2 => ?_
            match i, h1, h2 with
            | 0, h1, h2 =>
              cases h1
              cases h2
              rcases hz with ⟨rfl, fb⟩ | ⟨u1, u2, rfl, rfl, q1, q2⟩
              · rcases fb with ⟨i, rfl⟩ | ⟨s, rfl⟩ | ⟨b, rfl⟩
                · exact .int _ _
                · exact .str _ _
                · exact .bl _ _
              · refine .tup (seqT_same sA q1) (seqT_same sA q2) rfl (by show 2 ≤ 1000; decide) fun i x y h1 h2 => ?_
                match i, h1, h2 with
                | 0, h1, h2 =>
                  cases h1
                  cases h2
                  exact .str _ _
                | 1, h1, h2 =>
                  cases h1
                  cases h2
                  exact .str _ _
          | 1, h1, h2 =>
            cases h1
            cases h2
            refine .tup E1 (SqT.of A2) rfl (by show 1 ≤ 1000; decide) fun i x y h1 h2 => ?_
            match i, h1, h2 with
            | 0, h1, h2 =>
              obtain rfl := Option.some.inj h1
              cases h2
              rw [hfin]
              refine .tup X7 (SqT.of B1) rfl (by show 2 ≤ 1000; decide) fun i x y h1 h2 => ?_
              match i, h1, h2 with
              | 0, h1, h2 =>
                cases h1
                cases h2
                exact .str _ _
              | 1, h1, h2 =>
                cases h1
                cases h2
                exact .int _ _
          | 2, h1, h2 =>
            cases h1
            cases h2
            exact .lst (SqL.of D1) (SqL.of A3) rfl (Nat.zero_le _) fun i x y h1 h2 => nomatch h1
        · have s10 := sA.trans s9
          refine ⟨_, rfl, iteF ?_⟩
          exact ⟨_, _, _, _, _, _, _, rfl, s10 _ _ hp, s10 _ _ hl, fun t ht => (J t ht).same s10⟩
      · cases h
      · have hx0 : ("x" : Str) ∉ S0.cellN := of_decide_eq_false hX
        obtain ⟨u', hdu, hu'⟩ : ∃ u, d = .ref u ∧ SqT K G0 u [.str "none", .str "x"] := by
          rcases kd with ⟨h, _⟩ | ⟨_, h⟩
          · exact absurd h hx0
          · exact h
        refine ⟨_, rfl, r, _, _, rfl, hR.ob, nE "can" (by decide +kernel) (by decide +kernel) (by decide +kernel) (by decide +kernel), ?_⟩
        refine ⟨r, R, fun _ => false, rfl, hR, few, fun i y' e => ?_, fun D G3 hD s3 hDD => ⟨Nat.zero_le _, fun e he => ?_⟩⟩
        · rw [oneY i y' e, hpd]
          exact can_end
        have se := same_new (o := .lst []) he
        have sm := s3.trans se
        rw [el] at hDD
        refine ⟨.list [], .list [], .lst (SqL.of (se _ _ hDD)) .nil, .lst (SqL.of upd_same) .nil, rfl, rfl, _, rfl, ?_⟩
        refine iteF ?_
        have J : ∀ t ∈ ts, KindOk K CS fG (upd G3 e (.lst [])) t := fun t ht => (J3 t ht).same sm
        replace hp := sm _ _ hp3
        replace hl := sm _ _ hl3
        have F : FinS K CR CT CP (upd G3 e (.lst [])) r R y d := ⟨hR.same sm, ey, hpd, ⟨tf, hfin, seqT_same sm htf⟩, .ref u, hwd, .inr ⟨u, u', rfl, hdu, seqT_same sm hu, seqT_same sm (tk2 _ _ (seqT_same s1 hu'))⟩⟩
        generalize upd G3 e (.lst []) = G5 at *
        clear hR RI but ey y0 each htf hu hfin hwd
        generalize hRR : R = R2 at *
        generalize hYY : y = y2 at *
        obtain ⟨tf, hfin, htf⟩ := F.fin
        obtain ⟨z, hwz, hz⟩ := F.words
        refine ⟨_, rfl, r, _, _, rfl, F.run.ob, nE "said" (by decide +kernel) (by decide +kernel) (by decide +kernel) (by decide +kernel), ?_⟩
        have pl1 : R2.places.length = 1 := by
          rw [F.pl]
          rfl
        refine ⟨r, R2, .int 0, true, rfl, F.run, whl_i, (fun z => nomatch z), fun _ => ⟨0, rfl, fun n' y' en ey' => ?_, fun z => absurd (by rw [pl1]; decide) z⟩⟩
        obtain rfl : n' = 0 := by omega
        obtain rfl : y2 = y' := by
          rw [F.pl] at ey'
          exact Option.some.inj ey'
        refine ⟨_, rfl, r, _, _, rfl, F.run.ob, nE "ends" (by decide +kernel) (by decide +kernel) (by decide +kernel) (by decide +kernel), r, R2, rfl, F.run, (by rw [pl1]; decide), fun te G6 hte s6 e6 => ?_⟩
        rw [F.pl] at e6
        have R6 := F.run.same s6
        refine ⟨_, rfl, r, _, _, rfl, R6.ob, nE "can" (by decide +kernel) (by decide +kernel) (by decide +kernel) (by decide +kernel), r, R2, fun _ => false, rfl, R6, (by rw [pl1]; decide), fun i y' e => ?_, fun D7 G7 hD7 s7 e7 => ?_⟩
        · rw [F.pl] at e
          match i, e with
          | 0, e =>
            obtain rfl := Option.some.inj e
            rw [F.pend]
            exact can_end
        rw [F.pl] at e7
        refine ⟨small_sz (n := 3) (by decide), fun m1 hm1 => ?_⟩
        refine ⟨_, rfl, one, fun a1 ha1 => ⟨two_sz, fun b1 hb1 => ⟨one, fun a2 ha2 => ⟨Nat.zero_le _, fun a3 ha3 => ⟨small_sz (n := 3) (by decide), fun m2 hm2 => ?_⟩⟩⟩⟩⟩
        have v1 := same_new (o := .lst [.ref y2.tw, .ref te, .ref D7]) hm1
        have v2 := same_new (o := .tup [d]) ha1
        have v3 := same_new (o := .tup [.str "told", .int 0]) hb1
        have v4 := same_new (o := .tup [.ref b1]) ha2
        have v5 := same_new (o := .lst []) ha3
        have v6 := same_new (o := .lst [.ref a1, .ref a2, .ref a3]) hm2
        have v56 := v5.trans v6
        have v46 := v4.trans v56
        have v36 := v3.trans v46
        have v26 := v2.trans v36
        have v16 := v1.trans v26
        have sA := (s6.trans s7).trans v16
        have M1 := v26 _ _ upd_same
        have A1 := v36 _ _ upd_same
        have B1 := v46 _ _ upd_same
        have A2 := v56 _ _ upd_same
        have A3 := v6 _ _ upd_same
        have W1 : SqT K G5 y2.tw [z] := by
          rw [← hwz]
          exact (F.run.e y2 (by rw [F.pl]; exact List.mem_cons_self ..)).w
        have E1 := seqT_same (K := K) (s7.trans v16) (SqT.of e6)
        have X7 := seqT_same sA htf
        have D1 := v16 _ _ e7
        replace W1 := seqT_same sA W1
        refine ⟨_, _, rfl, .lst (SqL.of M1) (SqL.of upd_same) rfl (by show 3 ≤ 1000; decide) fun i x y h1 h2 => ?_, fun G9 s9 => ?_⟩
        · match i, h1, h2 with
          | 0, h1, h2 =>
            cases h1
            cases h2
            refine .tup W1 (SqT.of A1) rfl (by show 1 ≤ 1000; decide) fun i x y h1 h2 => ?_
            match i, h1, h2 with
            | 0, h1, h2 =>
              cases h1
              cases h2
              rcases hz with ⟨rfl, fb⟩ | ⟨u1, u2, rfl, rfl, q1, q2⟩
              · rcases fb with ⟨i, rfl⟩ | ⟨s, rfl⟩ | ⟨b, rfl⟩
                · exact .int _ _
                · exact .str _ _
                · exact .bl _ _
              · refine .tup (seqT_same sA q1) (seqT_same sA q2) rfl (by show 2 ≤ 1000; decide) fun i x y h1 h2 => ?_
                match i, h1, h2 with
                | 0, h1, h2 =>
                  cases h1
                  cases h2
                  exact .str _ _
                | 1, h1, h2 =>
                  cases h1
                  cases h2
                  exact .str _ _
          | 1, h1, h2 =>
            cases h1
            cases h2
            refine .tup E1 (SqT.of A2) rfl (by show 1 ≤ 1000; decide) fun i x y h1 h2 => ?_
            match i, h1, h2 with
            | 0, h1, h2 =>
              obtain rfl := Option.some.inj h1
              cases h2
              rw [hfin]
              refine .tup X7 (SqT.of B1) rfl (by show 2 ≤ 1000; decide) fun i x y h1 h2 => ?_
              match i, h1, h2 with
              | 0, h1, h2 =>
                cases h1
                cases h2
                exact .str _ _
              | 1, h1, h2 =>
                cases h1
                cases h2
                exact .int _ _
          | 2, h1, h2 =>
            cases h1
            cases h2
            exact .lst (SqL.of D1) (SqL.of A3) rfl (Nat.zero_le _) fun i x y h1 h2 => nomatch h1
        · have s10 := sA.trans s9
          refine ⟨_, rfl, iteF ?_⟩
          exact ⟨_, _, _, _, _, _, _, rfl, s10 _ _ hp, s10 _ _ hl, fun t ht => (J t ht).same s10⟩
    · rintro σ H' ⟨q2, q3, q4, q5, a, b, c, rfl, hp, hl, J⟩
      exact k _
end
end TW
namespace L2
open PySem PySem.Spec PyProof.Rows
section
variable {X : Cx} {pins : List (Addr × Obj)} {σ : St} {H : Hp} {s : Shared} {L : List Addr}
/-- behind the call what L holds is tracked again; meanwhile nothing was tracked there -/
theorem ce_back2 {Q Q0 : VK} {u : Value} {s' : Shared} (I : Inv X pins σ H s) (hL : ExtL H L) (hq : ∀ v H', (∀ b ∈ L, H' b = none) → Q0 v H' → Q v (reL H H' L)) (h : CE X.stack X.prog X.w (hidL H L) s Q0 u s') : CE X.stack X.prog X.w H s Q u s' := by
  refine ce_back I hL ?_
  obtain ⟨v, H', os, bare, un, hok, r, q⟩ := h
  refine ⟨v, H', os, bare, un, hok, r, hq v H' (fun b m => ?_) q⟩
  obtain ⟨φ, e⟩ := hL b m
  obtain ⟨_, ⟨o, ho⟩, _⟩ := (show ObjOk X.prog X.w H s.heap b (.ext φ) from I.hok b _ e)
  exact un.free b o ho (hidL_in m) (by simp)
theorem run_fnH2 {k : Nat} {f : Addr} {fd : FuncData} {ps : List Str} {ds : List Value} {dvs : List V} {sp : Heap → Sp} {Q : VK} {us : List Value} {vs : List V} (F : ∀ B, (∀ b o, X.base.get? b = some o → B.get? b = some o) → FnOk X.prog X.w X.K X.mg B (L2.CX X.prog X.w) k f fd ps (sp B)) (hr : Room k X.A)
    (hb : Binds X.K fd ps ds) (hd : Vals dvs ds) (hfn : ∀ y, X.fn y = true) (I : Inv X pins σ H s) (r : Vals vs us)
    (h : ∃ L, ExtL H L ∧ ∀ B, Known X σ H L B → sp B (vs ++ dvs) (hidL H L) (fun v H' => (∀ b ∈ L, H' b = none) → Q v (reL H H' L)) (fun _ _ _ => False)) : wpAny (model X.prog X.w) X.A (call (.ref f) us) (EP X pins σ Q) X.xe s := by
  obtain ⟨L, hL, h⟩ := h
  obtain ⟨B, kb, e0⟩ := known_base I hL hfn
  have q := h B kb
  have G := F B kb.old
  have r2 : Vals (vs ++ dvs) (us ++ ds) := r.append hd
  have hl : (us ++ ds).length = ps.length := by
    rw [← r2.length]
    exact G.len _ _ _ _ q
  refine wpAny_call (codeAny_mono (G.run X.A X.stack s (hidL H L) ⟨us, []⟩ (us ++ ds) (vs ++ dvs) _ _ hr e0 (hb s us I.kIn hl) r2 q) fun res s' back => ?_)
  cases res with
  | error e => exact (cx_false back).elim
  | ok fl =>
    cases fl with
    | ret u => exact I.after (ce_back2 I hL (fun _ _ n q => q n) back)
    | next => exact False.elim back
    | brk => exact False.elim back
    | cont => exact False.elim back
/-- o.m(e, ..) over a larger base -/
def tMethJ (X : Cx) (C : Addr) (m : Str) (sp : Heap → Sp) (dvs : List V) (to : TE) (t : TA) : TE := fun σ H Q => to σ H fun y H1 => ∃ a dx fs, y = .ref a ∧ H1 a = some (.ins C dx fs) ∧ fs.lookup m = none ∧
  t σ H1 fun vs H2 => ∃ L, ExtL H2 L ∧ ∀ B, Known X σ H2 L B → sp B (.ref a :: (vs ++ dvs)) (hidL H2 L) (fun v H' => (∀ b ∈ L, H' b = none) → Q v (reL H2 H' L)) (fun _ _ _ => False)
theorem pe_methJ {k : Nat} {f C : Addr} {fd : FuncData} {ps : List Str} {ds : List Value} {dvs : List V} {sp : Heap → Sp} {m : Str} {pos apos : Pos} {e o : Expr} {es : List Expr} {ta : TA} {to : TE} {pl : Sem Bool} (he : PE X o to) (c : Cls X.K C) (hm : Meth X.K C m f) (F : ∀ B, (∀ b o, X.base.get? b = some o → B.get? b = some o) → FnOk X.prog X.w X.K X.mg B (L2.CX X.prog X.w) k f fd ps (sp B)) (hr : Room k X.A) (hb : Binds X.K fd ps ds) (hd : Vals dvs ds) (hfn : ∀ y, X.fn y = true) (ha : PA X (e :: es) ta)
    (hst : starEach (e :: es) X.env = (false, eval e X.env) :: starEach es X.env := by rfl) (hpl : (backTo pos (starEach es X.env)).any (·.1) = false := by rfl)
    (ht : eval (.Call (.Attribute o m apos) (e :: es) [] pos) X.env = (do
      let ov ← eval o X.env
      standAt apos.atName
      let (f, first) ← holding [ov] (getMethod ov m pl)
      callWith pos f first (backTo pos (starEach (e :: es) X.env)) (backToKw pos (keywordEach [] X.env))) := by rfl) :
    PE X (.Call (.Attribute o m apos) (e :: es) [] pos) (tMethJ X C m sp dvs to ta) := by
  refine ⟨fun pins s σ H Q I h => ?_⟩
  refine PySem.W.methodCall_KW (pl := pl) (thn (he.run pins s σ H _ I h) fun u s1 ⟨y, H1, I1, rx, a, dx, fs, ex, ea, l, q⟩ => ?_) ht
  subst ex
  obtain rfl : u = Value.ref a := rx
  refine getmeth_ok I1 ea c hm l ?_
  refine PySem.W.callWith_K (first := [.ref a]) (h₀ := X.base) I.ok.mod.kin hm.kp (thn (ha.run pos pins s1 σ H1 _ I1 q) fun us s2 ⟨vs, H2, I2, r, q2⟩ => ⟨I2.kIn, ?_⟩) hst hpl
  exact run_fnH2 (us := .ref a :: us) (vs := .ref a :: vs) F hr hb hd hfn I2 (.cons rfl r) q2
end
section
variable {X : Cx} {pins : List (Addr × Obj)} {σ : St} {H : Hp} {s : Shared} {k : Nat} {f C : Addr} {fd : FuncData} {ps : List Str} {ds : List Value} {dvs : List V} {sp : Heap → Sp} {x : Str} {p pos : Pos} {e : Expr} {es : List Expr} {t : TA}
/-- an object is made by an __init__ that keeps its promise over every base -/
theorem run_makeH {Q : VK} {us : List Value} {vs : List V} (M : Mk X.K C f) (F : ∀ B, (∀ b o, X.base.get? b = some o → B.get? b = some o) → FnOk X.prog X.w X.K X.mg B CX0 k f fd ps (sp B)) (hr : Room (k + 1) X.A) (hb : Binds X.K fd ps ds) (hd : Vals dvs ds)
    (hfn : ∀ y, X.fn y = true) (I : Inv X pins σ H s) (r : Vals vs us)
    (h : ∀ x dx, H x = none → H dx = none → dx ≠ x → ∃ L, ExtL (upd (upd H dx (.own x)) x (.ins C dx [])) L ∧ ∀ B, Known X σ (upd (upd H dx (.own x)) x (.ins C dx [])) L B →
      sp B (.ref x :: (vs ++ dvs)) (hidL (upd (upd H dx (.own x)) x (.ins C dx [])) L) (fun v H' => v = .non ∧ ((∀ b ∈ L, H' b = none) → Q (.ref x) (reL (upd (upd H dx (.own x)) x (.ins C dx [])) H' L))) (fun _ _ _ => False)) :
    wpAny (model X.prog X.w) X.A (call (.ref C) us) (EP X pins σ Q) X.xe s := by
  obtain ⟨L, hL, hq⟩ := h (s.heap.objs.size + 1) s.heap.objs.size (I.hok.fresh (Nat.le_succ _)) (I.hok.fresh (Nat.le_refl _)) (Nat.ne_of_lt (Nat.lt_succ_self _))
  have I2 := Inv.made (C := C) I
  obtain ⟨B, kb, e0⟩ := known_base I2 hL hfn
  have q := hq B kb
  have G := F B kb.old
  have r2 : Vals (V.ref (s.heap.objs.size + 1) :: (vs ++ dvs)) (Value.ref (s.heap.objs.size + 1) :: (us ++ ds)) := .cons rfl (r.append hd)
  have hl : (Value.ref (s.heap.objs.size + 1) :: us ++ ds).length = ps.length := by
    have e := r2.length
    rw [G.len _ _ _ _ q] at e
    exact e.symm
  refine wpAny_call (make_map (f := f) I.kIn M.makes M.init (beq_iff_eq.mp M.fn) (codeAny_mono (G.run _ X.stack _ _ ⟨Value.ref (s.heap.objs.size + 1) :: us, []⟩ (Value.ref (s.heap.objs.size + 1) :: (us ++ ds)) _ _ (fun _ _ _ => False) (hr.make C us [])
    (e0.make C us []) (hb _ (Value.ref (s.heap.objs.size + 1) :: us) I2.kIn hl) r2 q) fun r s' hq' => ?_))
  cases r with
  | error e => exact False.elim hq'
  | ok fl =>
    cases fl with
    | ret u =>
      obtain ⟨v, H', I3, rv, ev, q3⟩ := I2.after (ce_back2 (Q := fun v H' => v = .non ∧ Q (.ref (s.heap.objs.size + 1)) H') I2 hL (fun _ _ n q => ⟨q.1, q.2 n⟩) hq')
      subst ev
      exact ⟨rv, ⟨V.ref (s.heap.objs.size + 1), H', I3, rfl, q3⟩⟩
    | next => exact False.elim hq'
    | brk => exact False.elim hq'
    | cont => exact False.elim hq'
def tMakeH (X : Cx) (C : Addr) (sp : Heap → Sp) (dvs : List V) (t : TA) : TE := fun σ H Q => t σ H fun vs H => ∀ x dx, H x = none → H dx = none → dx ≠ x → ∃ L, ExtL (upd (upd H dx (.own x)) x (.ins C dx [])) L ∧ ∀ B, Known X σ (upd (upd H dx (.own x)) x (.ins C dx [])) L B →
      sp B (.ref x :: (vs ++ dvs)) (hidL (upd (upd H dx (.own x)) x (.ins C dx [])) L) (fun v H' => v = .non ∧ ((∀ b ∈ L, H' b = none) → Q (.ref x) (reL (upd (upd H dx (.own x)) x (.ins C dx [])) H' L))) (fun _ _ _ => False)
theorem pe_makeH (M : Mk X.K C f) (F : ∀ B, (∀ b o, X.base.get? b = some o → B.get? b = some o) → FnOk X.prog X.w X.K X.mg B CX0 k f fd ps (sp B)) (hr : Room (k + 1) X.A) (hg : Gl X x) (hm : X.mg x = some (.ref C)) (hb : Binds X.K fd ps ds) (hd : Vals dvs ds) (hfn : ∀ y, X.fn y = true)
    (ha : PA X (e :: es) t) (hdb : (x == ("__debug__" : Str)) = false := by decide) (he : starEach (e :: es) X.env = (false, eval e X.env) :: starEach es X.env := by rfl) (hpl : (backTo pos (starEach es X.env)).any (·.1) = false := by rfl) :
    PE X (.Call (.Name x p) (e :: es) [] pos) (tMakeH X C sp dvs t) := by
  refine ⟨fun pins s σ H Q I h => ?_⟩
  refine wpAny_Call_Name_kw (ld_glob I hg hm ?_ hdb)
  refine PySem.W.callWith_K (h₀ := X.base) I.ok.mod.kin M.kp (thn (ha.run pos pins s σ H _ I h) fun us s1 ⟨vs, H1, I1, r, q⟩ => ⟨I1.kIn, ?_⟩) he hpl
  exact run_makeH M F hr hb hd hfn I1 r q
end
end L2
namespace TW
open PySem PySem.Spec PyProof.Rows L2
abbrev sLaw : Stmt := top 73
/-- what the law's other work comes to -/
def BMe (K : PySem.W.Frag) (m : Nat) : Beh := fun H ans pend fin words => ans = [] ∧ pend = .non ∧ words = [] ∧ ∃ t, fin = .ref t ∧ SqT K H t [.str "told", .int (m : Nat)]
theorem bme_s {K : PySem.W.Frag} {m : Nat} : BehS K (BMe K m) := by
  intro H H' ans p e ws tk ⟨h1, h2, h3, t, h4, h5⟩
  exact ⟨h1, h2, h3, t, h4, tk _ _ h5⟩
section
variable {P : Program} {w : World} {K : PySem.W.Frag} {mg : Str → Option Value} {base : Heap} {C CS CH : Addr} {n kw : Nat} {f c' : Addr} {q : Str} {params : Arguments} {body : Expr} {scope : Scope} {cl : List (Str × Addr)}
theorem work_num {S : SS} {me : Nat} {b : Int} {fN : Addr} {fdN : FuncData} {p1 p2 p3 p4 : Pos} (Z : CloAt base f c' q params body scope cl "_law_hand" ["_law_base"] [.int b]) (eb : body = .Call (.Name "_law_numbered" p1) [.Name "_law_base" p2, .Name "_law_hand" p3] [] p4)
    (gl : scope.names.lookup ("_law_numbered" : Str) = some .globalImplicit) (v0 : scope.names.lookup ("_law_hand" : Str) = some .local) (v1 : scope.names.lookup ("_law_base" : Str) = some .free)
    (GN : FnOk P w K mg base (L2.CX P w) kw fN fdN ["_law_base", "_law_hand"] (spNum K C CS CH)) (mN : mg "_law_numbered" = some (.ref fN)) (kN : PySem.W.keepIn K (.ref fN) = true) (bN : Binds K fdN ["_law_base", "_law_hand"] []) (hx : ("x" : Str) ∈ S.cellN) (hme : me ≤ 100) :
    WorkOk P w K mg base C CS CH (kw + 1) n S f me (fun ans => ans.length ≤ me + 1 ∧ ∀ a ∈ ans, FlatA a) (BNum K b me) := by
  subst eb
  have hat : PySem.W.FnAt f base := by
    obtain ⟨pm, ctv, e⟩ := Z.fn
    exact ⟨_, _, _, _, e⟩
  refine ⟨_, fnR_clo (tb := fun E => tCall (spNum K C CS CH) [] E (tCons (tVar 1) (tCons (tVar 0) tNil))) Z fun A outer s H E hr => pe_call GN hr gl mN kN bN .nil (fun pins σ H s e s' I c => passAt (takes_of (E := E) rfl rfl rfl rfl) σ pins H s e s' I c) (pa_cons (pe_var (i := 1) rfl (.inr (.inr v1))) (pa_cons (pe_var (i := 0) rfl (.inl v0)) pa_nil)), hat, fun sh an ans hd dx md wl H0 G hS hB3 ⟨a1, a2⟩ hG => ?_⟩
  refine ⟨_, _, ⟨.ref hd, rfl, _, rfl, _, rfl, hd, dx, md, wl, sh, an, b, me, ans, S, H0, rfl, hG, hS, hB3, hx, a1, hme, a2, fun H2 h2 A k3 hh bn => ⟨rfl, h2, A, k3, hh, bn⟩, fun H2 h2 a t2 A k3 hf ep el ea ew ht2 => ?_⟩, fun _ _ q => q, fun _ _ _ e => e⟩
  refine ⟨h2, A, k3, .inr ⟨hf, ?_, fun H3 t s3 ht => .inr (.inr ⟨el, ep, a, t, t2, ea, rfl, SqT.of ht, ew, seqT_same s3 ht2⟩)⟩⟩
  unfold toldN
  split
  · exact .str _ _
  · exact .int _ _
theorem work_me {S : SS} {me : Nat} {p1 p2 : Pos} (Z : CloAt base f c' q params body scope cl "_law_hand" [] []) (eb : body = .Attribute (.Name "_law_hand" p1) "me" p2) (v0 : scope.names.lookup ("_law_hand" : Str) = some .local) (T : HTxt K C) :
    WorkOk P w K mg base C CS CH (kw + 1) n S f me (fun ans => ans = []) (BMe K me) := by
  subst eb
  have hat : PySem.W.FnAt f base := by
    obtain ⟨pm, ctv, e⟩ := Z.fn
    exact ⟨_, _, _, _, e⟩
  refine ⟨_, fnR_clo (k := kw) (tb := fun E => tFld K (tVar 0) "me") Z fun A outer s H E hr => pe_fld (pe_var (i := 0) rfl (.inl v0)) rfl, hat, fun sh an ans hd dx md wl H0 G hS hB3 ea hG => ?_⟩
  refine ⟨_, _, ⟨.ref hd, rfl, _, rfl, hd, C, dx, _, _, rfl, hG.ob, T.cl, T.me, hF_get0, ?_⟩, fun _ _ q => q, fun _ _ _ e => e⟩
  exact ⟨_, hG, fun b o _ _ _ e => e, .inr ⟨rfl, .int _ _, fun H3 t s3 ht => ⟨ea, rfl, rfl, t, rfl, SqT.of ht⟩⟩⟩
end
end TW
namespace TW
open PySem PySem.Spec PyProof.Rows L2
/-- all that is no ext stands as it stood -/
def NX (H H' : Hp) : Prop := ∀ b o, H b = some o → (∀ φ, o ≠ .ext φ) → H' b = some o
section
variable {K : PySem.W.Frag} {CR CT CP CS : Addr} {H H' : Hp} {r sh : Addr} {R : RS}
theorem NX.sq (e : NX H H') : TK K H H' := fun a xs q => by
  rcases q with (q | ⟨o, q⟩) | q
  · exact .inl (.inl (e _ _ q fun _ z => (nomatch z)))
  · exact .inl (.inr ⟨o, e _ _ q fun _ z => (nomatch z)⟩)
  · exact .inr q
theorem NX.shop {S : SS} (e : NX H H') (A : ShopAt K CS H sh S) : ShopAt K CS H' sh S :=
  ⟨e _ _ A.ob fun _ z => (nomatch z), e.sq _ _ A.w, e _ _ A.c fun _ z => (nomatch z), A.cn, e.sq _ _ A.l, e _ _ A.b fun _ z => (nomatch z), A.bn⟩
theorem NX.run (e : NX H H') (A : RunI K CR CT CP H r R) : RunI K CR CT CP H' r R := by
  obtain ⟨⟨a1, ⟨t1, t2, t3, t4, t5⟩, a3, a4, a5⟩, ne⟩ := A
  exact ⟨⟨e _ _ a1 fun _ z => (nomatch z), ⟨e _ _ t1 fun _ z => (nomatch z), e _ _ t2 fun _ z => (nomatch z), e _ _ t3 fun _ z => (nomatch z), e _ _ t4 fun _ z => (nomatch z), e _ _ t5 fun _ z => (nomatch z)⟩, e _ _ a3 fun _ z => (nomatch z),
    fun x hx => ⟨e _ _ (a4 x hx).ob fun _ z => (nomatch z), e.sq _ _ (a4 x hx).a, e.sq _ _ (a4 x hx).w⟩, e _ _ a5 fun _ z => (nomatch z)⟩, ne⟩
theorem NX.hid {L : List Addr} (h : ExtL H L) : NX H (hidL H L) := fun b o e n => (hidL_out (h.out e n)).trans e
/-- what came of a call is there behind it, and what L tracked -/
theorem same_re {L : List Addr} (h : ∀ b ∈ L, H' b = none) : Same H' (reL H H' L) := fun b o e => (reL_out (fun m => by rw [h b m] at e; cases e)).trans e
theorem rows_nil {T : TS} (h : T.rows.map (·.1) = ([] : List Str).map Sum.inr) : T.rows = [] := by
  match h2 : T.rows, h with
  | [], _ => rfl
end
/-- what the i-th work of the law's shop comes to -/
def Bh (K : PySem.W.Frag) (b : Int) (m j : Nat) : Beh := fun H ans p e ws => (j < m ∧ BNum K b j H ans p e ws) ∨ (m ≤ j ∧ BMe K j H ans p e ws)
theorem bh_s {K : PySem.W.Frag} {b : Int} {m j : Nat} : BehS K (Bh K b m j) := by
  intro H H' ans p e ws tk h
  rcases h with ⟨h1, h2⟩ | ⟨h1, h2⟩
  · exact .inl ⟨h1, bnum_s _ _ _ _ _ _ tk h2⟩
  · exact .inr ⟨h1, bme_s _ _ _ _ _ _ tk h2⟩
def AdH (m j : Nat) : List V → Prop := fun ans => (j < m → ans.length ≤ j + 1 ∧ ∀ a ∈ ans, FlatA a) ∧ (m ≤ j → ans = [])
/-- a run of the law's shop: v in the cell, al the answers so far -/
structure RunSt (K : PySem.W.Frag) (CR CT CP : Addr) (b : Int) (m mm : Nat) (sh : Addr) (H : Hp) (r : Addr) (R : RS) (v : V) (al : Nat → List V) (D : Nat) : Prop where
  run : RunI K CR CT CP H r R
  sh : R.sh = sh
  c : R.T.cells = [(Sum.inr ("x" : Str), v)]
  h : R.T.holders = []
  w : R.T.rows = []
  len : R.places.length = mm
  dn : R.done.length ≤ D
  pl : ∀ j x, R.places[j]? = some x → x.ans = al j ∧ Bh K b m j H x.ans x.pend x.fin x.words
theorem RunSt.nx {K : PySem.W.Frag} {CR CT CP : Addr} {b : Int} {m mm : Nat} {sh : Addr} {H H' : Hp} {r : Addr} {R : RS} {v : V} {al : Nat → List V} {D : Nat} (e : NX H H') (Z : RunSt K CR CT CP b m mm sh H r R v al D) : RunSt K CR CT CP b m mm sh H' r R v al D :=
  ⟨e.run Z.run, Z.sh, Z.c, Z.h, Z.w, Z.len, Z.dn, fun j x h => ⟨(Z.pl j x h).1, bh_s _ _ _ _ _ _ e.sq (Z.pl j x h).2⟩⟩
theorem Same.nx {H H' : Hp} (e : Same H H') : NX H H' := fun b o h _ => e b o h
section
variable {P : Program} {w : World} {K : PySem.W.Frag} {mg : Str → Option Value} {base : Heap} {C CS CP CH CV CR CT CW CC pS : Addr} {S : Addr → Option Sp} {Rel : Hp → V → V → Bool → Prop} {kw n : Nat}
/-- the law's works, all of them -/
def Works (P : Program) (w : World) (K : PySem.W.Frag) (mg : Str → Option Value) (base : Heap) (C CS CH : Addr) (kw n : Nat) (b : Int) (m mm : Nat) (S0 : SS) : Prop := ∀ i, i < mm → ∃ g, S0.works[i]? = some (.ref g) ∧ WorkOk P w K mg base C CS CH kw n S0 g i (AdH m i) (Bh K b m i)
theorem WorkOk.conv {S0 : SS} {g : Addr} {me : Nat} {A A' : List V → Prop} {B B' : Beh} (h : WorkOk P w K mg base C CS CH kw n S0 g me A B) (ha : ∀ ans, A' ans → A ans) (hb : ∀ H ans p e ws, B H ans p e ws → B' H ans p e ws) : WorkOk P w K mg base C CS CH kw n S0 g me A' B' := by
  obtain ⟨s1, h1, h2, h3⟩ := h
  refine ⟨s1, h1, h2, fun sh an ans hd dx md wl H0 G hS hB3 adm hG => ?_⟩
  obtain ⟨Q0, E0, z1, z2, z3⟩ := h3 sh an ans hd dx md wl H0 G hS hB3 (ha _ adm) hG
  refine ⟨Q0, E0, z1, fun v H2 q => ?_, fun cls d H2 q => ?_⟩
  · obtain ⟨h, q1, q2, q3⟩ := z2 v H2 q
    exact ⟨h, q1, q2, q3.imp (fun z => ⟨z.1, hb _ _ _ _ _ z.2⟩) (fun z => ⟨z.1, z.2.1, fun H3 t s3 e => hb _ _ _ _ _ (z.2.2 H3 t s3 e)⟩)⟩
  · obtain ⟨e, h, q1, q2, q3, q4⟩ := z3 cls d H2 q
    exact ⟨e, h, q1, q2, q3, hb _ _ _ _ _ q4⟩
theorem tabs_put {T : List (Addr × Str)} {H : Hp} {p : Addr} {xs ys : List V} (hp : H p = some (.lst xs)) (h : LamX.Tabs T H) : LamX.Tabs T (upd H p (.lst ys)) := fun z hz => by
  obtain ⟨ps, h1, h2, h3⟩ := h z hz
  refine ⟨ps, (upd_ne (ne_of h1 hp (by intro z; cases z))).trans h1, h2, fun pos cv e => ?_⟩
  obtain ⟨c, e1, e2⟩ := h3 pos cv e
  exact ⟨c, e1, (upd_ne (ne_of e2 hp (by intro z; cases z))).trans e2⟩
theorem go_num {S0 : SS} {b : Int} {m mm k t D : Nat} {sh r : Addr} {R : RS} {v : V} {al : Nat → List V} {H : Hp} {Q : VK} {E : XK} {fL fW : Addr} (hx : PySem.W.exmOne K (.ref CH) (.ref CH) = some true) (Wk : Works P w K mg base C CS CH kw n b m mm S0)
    (kL : KDct K w pS "look" (.ref fL)) (sL : S fL = some (spStep K CT dLook)) (kW : KDct K w pS "swap" (.ref fW)) (sW : S fW = some (spStep K CT dSwap))
    (hS : ShopAt K CS H sh S0) (st : RunSt K CR CT CP b m mm sh H r R v al D) (hk : k < m) (hm : m ≤ mm) (ht : al k = List.replicate t v) (htk : t ≤ k) (hv : FlatA v) (h4 : k ≤ 1000) (hD : D ≤ 1000)
    (cont : ∀ (R' : RS) (H' : Hp), But3 r R.pl R.dn H H' → R'.pl = R.pl → R'.dn = R.dn → RunSt K CR CT CP b m mm sh H' r R' (if t = k then .int (b + (k : Nat)) else v) (fun j => if j = k then List.replicate (t + 1) v else al j) (D + 1) → Q v H') :
    spGo P w K CR CT CP CW CC pS S Rel (spCome P w K mg base C CS CP CH CV kw n) [.ref r, .int (k : Nat)] H Q E := by
  obtain ⟨y, ey⟩ : ∃ y, R.places[k]? = some y := ⟨_, List.getElem?_eq_getElem (by rw [st.len]; omega)⟩
  obtain ⟨ea, eb⟩ := st.pl k y ey
  obtain ⟨g, hg, hW⟩ := Wk k (by omega)
  have hR := st.run.at_
  have nh : R.T.cells ≠ R.T.holders := by
    rw [st.c, st.h]
    exact fun z => (nomatch z)
  have nr : R.T.cells ≠ R.T.rows := by
    rw [st.c, st.w]
    exact fun z => (nomatch z)
  have lt : (List.replicate t v).length = t := List.length_replicate
  have adm : AdH m k (y.ans ++ [v]) := by
    refine ⟨fun _ => ⟨?_, fun a ha => ?_⟩, fun z => by omega⟩
    · rw [List.length_append, ea, ht, lt]
      show t + 1 ≤ k + 1
      omega
    · rw [ea, ht] at ha
      rcases List.mem_append.mp ha with h | h
      · rw [(List.mem_replicate.mp h).2]
        exact hv
      · rw [List.mem_singleton.mp h]
        exact hv
  have fin : ∀ (c : List (Key × V)) (R' : RS) (y' : PS) (H' : Hp), c = [(Sum.inr ("x" : Str), if t = k then .int (b + (k : Nat)) else v)] → But3 r R.pl R.dn H H' → RunI K CR CT CP H' r R' → Went K H' R R' k y.pend v c y' → y'.ans = y.ans ++ [v] → Bh K b m k H' y'.ans y'.pend y'.fin y'.words → Q v H' := by
    intro c R' y' H' ec b3 RI went ey' hb
    refine cont R' H' b3 went.pl went.dn ⟨RI, went.sh.trans st.sh, went.c.trans ec, went.h.trans st.h, went.r.trans st.w, by rw [went.places, List.length_set]; exact st.len, ?_, fun j x e => ?_⟩
    · obtain ⟨t', e, _⟩ := went.done
      rw [e, List.length_append]
      have := st.dn
      show _ + 1 ≤ D + 1
      omega
    · rw [went.places] at e
      by_cases c : j = k
      · subst c
        rw [List.getElem?_set_self (List.getElem?_eq_some_iff.mp ey).1] at e
        obtain rfl := (Option.some.inj e).symm
        refine ⟨?_, hb⟩
        rw [if_pos rfl, ey', ea, ht, List.replicate_succ']
      · rw [List.getElem?_set_ne (fun z => c z.symm)] at e
        obtain ⟨q1, q2⟩ := st.pl j x e
        refine ⟨?_, bh_s _ _ _ _ _ _ (run_tk hR b3) q2⟩
        rw [if_neg c]
        exact q1
  rcases eb with ⟨_, eb⟩ | ⟨z, _⟩
  · rcases eb with ⟨h1, _, _, wt, hp, hwt⟩ | ⟨h1, _, _, wt, hp, hwt⟩ | ⟨h1, _⟩
    · rw [ea, ht, lt] at h1
      refine go_use (n := k) (a := v) (c := R.T.cells) (SSh := S0) bh_s hx hW st.run (by rw [st.sh]; exact hS) ey hg (by rw [hp]; exact can_plain hwt (by decide +kernel) (by decide +kernel) (by decide +kernel) (by decide +kernel)) adm (by rw [hp]; exact does_look hwt (by rw [st.c]; rfl) kL sL) (by rw [ea, ht, lt]; omega) ?_ nh nr fun R' y' H' b3 RI went ey' hb => fin _ R' y' H' ?_ b3 RI went ey' hb
      · exact Nat.lt_of_le_of_lt st.dn (Nat.lt_of_lt_of_le (Nat.lt_succ_of_le hD) (small_sz (n := 1001) (by decide)))
      · rw [st.c, if_neg (by omega)]
    · rw [ea, ht, lt] at h1
      refine go_use (n := k) (a := v) (c := putK R.T.cells (Sum.inr ("x" : Str)) (.int (b + (k : Nat)))) (SSh := S0) bh_s hx hW st.run (by rw [st.sh]; exact hS) ey hg (by rw [hp]; exact can_plain hwt (by decide +kernel) (by decide +kernel) (by decide +kernel) (by decide +kernel)) adm (by rw [hp]; exact does_swap hwt (by rw [st.c]; rfl) (by rw [st.c]; exact small_sz (n := 2) (by decide)) kW sW) (by rw [ea, ht, lt]; omega) ?_ nh nr fun R' y' H' b3 RI went ey' hb => fin _ R' y' H' ?_ b3 RI went ey' hb
      · exact Nat.lt_of_le_of_lt st.dn (Nat.lt_of_lt_of_le (Nat.lt_succ_of_le hD) (small_sz (n := 1001) (by decide)))
      · rw [st.c, if_pos h1]
        rfl
    · rw [ea, ht, lt] at h1
      omega
  · omega
theorem new_run {S0 : SS} {b : Int} {m mm : Nat} {sh r dx : Addr} {v : V} {H : Hp} {Q : VK} {E : XK} (hx : PySem.W.exmOne K (.ref CH) (.ref CH) = some true) (Wk : Works P w K mg base C CS CH kw n b m mm S0)
    (hS : ShopAt K CS H sh S0) (ho : H r = some (.ins CR dx [])) (hm : S0.many = (mm : Int)) (few : mm ≤ 1000) (ec : S0.cells = [(Sum.inr ("x" : Str), v)]) (el : S0.locks = []) (eb : S0.beltN = []) (ebs : S0.belts = [])
    (cont : ∀ (R' : RS) (H' : Hp), But r H H' → H R'.pl = none → H R'.dn = none → RunSt K CR CT CP b m mm sh H' r R' v (fun _ => []) 0 → Q .non H') :
    spRI K CR CS CT (spCome P w K mg base C CS CP CH CV kw n) [.ref r, .ref sh] H Q E := by
  have pick : ∃ gs : Nat → Addr, ∀ i, i < mm → S0.works[i]? = some (.ref (gs i)) ∧ WorkOk P w K mg base C CS CH kw n S0 (gs i) i (AdH m i) (Bh K b m i) := by
    have W2 : ∀ i, ∃ g, i < mm → S0.works[i]? = some (.ref g) ∧ WorkOk P w K mg base C CS CH kw n S0 g i (AdH m i) (Bh K b m i) := fun i => by
      by_cases h : i < mm
      · obtain ⟨g, q⟩ := Wk i h
        exact ⟨g, fun _ => q⟩
      · exact ⟨0, fun z => absurd z h⟩
    exact ⟨fun i => (W2 i).choose, fun i hi => (W2 i).choose_spec hi⟩
  obtain ⟨gs, hg⟩ := pick
  refine ri_use (S := S0) (m := mm) (Bh K b m) (AdH m) gs hx (fun _ _ => bh_s) (fun i _ => ⟨fun _ => ⟨Nat.zero_le _, fun a ha => (nomatch ha)⟩, fun _ => rfl⟩) (fun i hi => (hg i hi).1) (fun i hi => (hg i hi).2) ho hS hm few (by rw [el]; exact List.nodup_nil) (by rw [eb]; exact List.nodup_nil) (by rw [el]; exact Nat.zero_le _) (by rw [ebs]; exact Nat.zero_le _) fun R H' but RI esh ec' eh er erows es elen each ed f1 f2 => ?_
  refine cont R H' but f1 f2 ⟨RI, esh, by rw [ec', ec], by rw [eh, el]; rfl, rows_nil (by rw [er, eb]), elen, by rw [ed]; exact Nat.le_refl _, fun j x e => ?_⟩
  obtain ⟨q1, q2⟩ := each j x e
  exact ⟨q1, by rw [q1]; exact q2⟩
end
end TW
namespace TW
open PySem PySem.Spec PyProof.Rows L2 LamX
/-- a def of the text whose code object is known -/
structure FunC (K : PySem.W.Frag) (x qual : Str) (st : Stmt) (f : Addr) (fd : FuncData) (c : Addr) : Prop where
  ex : ∃ (oc : Value) (od : Option Addr) (kV doc pm : Value) (an : Option Addr) (ct : Value) (osl : Array (Option Value)),
    fd = PySem.W.fnOf x qual (defArgs st) (defBody st) (defScope st) .none kV doc pm an (.ref c) ct ∧ K.lookup f = some ⟨oc, od, .func fd, osl⟩ ∧ PySem.W.codeIn K (.ref c) qual = true
  kp : PySem.W.keepIn K (.ref f) = true
section
variable {P : Program} {w : World} {K : PySem.W.Frag} {mg : Str → Option Value} {base : Heap}
theorem FunC.ok {x qual : Str} {st : Stmt} {f c : Addr} {fd : FuncData} {N ps : List Str} {k : Nat} {sp : Sp} (F : FunC K x qual st f fd c) (S : FnScope N ps (defScope st)) (len : ∀ vs H Q E, sp vs H Q E → vs.length = ps.length)
    (hbody : ∀ (A : Around) (outer : List Env) (s : Shared) (H : Hp) (vs : List V) (Q : VK) (E : XK), Room k (A.deeper (envOfC qual (defScope st) s.heap.objs.size f (.ref c))) → sp vs H Q E →
      ∃ t, PSs (cxOf CX0 P w K mg base N qual (defScope st) f (.ref c) A outer s H E).nox (defBody st) t ∧ t { nx := fun _ H' => Q .non H', rt := Q } (L2.start N vs) H) : FnOk P w K mg base CX0 (k + 1) f fd ps sp := by
  obtain ⟨oc, od, kV, doc, pm, an, ct, osl, rfl, lk, hcd⟩ := F.ex
  refine fn_of lk hcd S len fun A outer s H vs Q E hr hsp => ?_
  obtain ⟨t, h, q⟩ := hbody A outer s H vs Q E hr hsp
  exact ⟨t, h.nox, q⟩
end
abbrev NLaw : List Str := ["_law_script", "_law_draws", "_law_base", "_law_many", "_law_start", "_law_work", "_law_shop", "_law_other", "_law_tail", "_law_turn", "_law_order", "_law_left", "_law_run", "_law_k", "_law_at", "_law_ends", "_law_said", "_law_here", "_law_told"]
theorem scLaw : FnScope NLaw ["_law_script"] (defScope sLaw) := ⟨rfl, rfl, rfl, by decide +kernel, rfl, by decide +kernel, by decide +kernel⟩
theorem erase_map {α β : Type} (f : α → β) : ∀ (l : List α) (i : Nat), (l.map f).eraseIdx i = (l.eraseIdx i).map f
  | [], _ => rfl
  | _ :: _, 0 => rfl
  | a :: l, i + 1 => congrArg (f a :: ·) (erase_map f l i)
theorem erase_perm {α : Type} : ∀ (l : List α) (i : Nat) (x : α), l[i]? = some x → (x :: l.eraseIdx i).Perm l
  | [], i, x, h => nomatch h
  | a :: l, 0, x, h => by
    obtain rfl : a = x := Option.some.inj h
    exact .refl _
  | a :: l, i + 1, x, h => (List.Perm.swap a x (l.eraseIdx i)).trans (.cons a (erase_perm l i x h))
theorem erase_len {α : Type} : ∀ (l : List α) (i : Nat) (x : α), l[i]? = some x → (l.eraseIdx i).length + 1 = l.length
  | a :: l, 0, x, h => rfl
  | a :: l, i + 1, x, h => congrArg (· + 1) (erase_len l i x h)
theorem dpall_nat {K : PySem.W.Frag} {H : Hp} : ∀ ls : List Nat, DpAll K H (ls.map fun k => V.int (k : Nat)) (ls.map fun k => PyData.int (k : Nat))
  | [] => .nil
  | a :: l => .cons (.int _) (dpall_nat l)
theorem shaped_nat : ∀ ls : List Nat, ls.length ≤ 4 → SeqAt.shaped (.list (ls.map fun k => PyData.int (k : Nat))) = true
  | [], _ => rfl
  | [_], _ => rfl
  | [_, _], _ => rfl
  | [_, _, _], _ => rfl
  | [_, _, _, _], _ => rfl
  | _ :: _ :: _ :: _ :: _ :: _, h => by
    simp only [List.length_cons] at h
    omega
/-- all but lists stands -/
def LK (H H' : Hp) : Prop := ∀ b o, H b = some o → (∀ xs, o ≠ .lst xs) → H' b = some o
theorem LK.refl (H : Hp) : LK H H := fun _ _ e _ => e
theorem LK.trans {H H1 H2 : Hp} (a : LK H H1) (b : LK H1 H2) : LK H H2 := fun c o e n => b c o (a c o e n) n
theorem LK.of {H H' : Hp} (e : Same H H') : LK H H' := fun b o h _ => e b o h
theorem LK.put {H : Hp} {p : Addr} {xs ys : List V} (hp : H p = some (.lst xs)) : LK H (upd H p (.lst ys)) := fun b o e n => (upd_ne (fun z => by subst z; rw [hp] at e; exact n _ (Option.some.inj e).symm)).trans e
theorem LK.tk {K : PySem.W.Frag} {H H' : Hp} (e : LK H H') : TK K H H' := fun a xs q => by
  rcases q with (q | ⟨o, q⟩) | q
  · exact .inl (.inl (e _ _ q fun _ z => (nomatch z)))
  · exact .inl (.inr ⟨o, e _ _ q fun _ z => (nomatch z)⟩)
  · exact .inr q
theorem LK.shop {K : PySem.W.Frag} {CS sh : Addr} {H H' : Hp} {S : SS} (e : LK H H') (A : ShopAt K CS H sh S) : ShopAt K CS H' sh S :=
  ⟨e _ _ A.ob fun _ z => (nomatch z), e.tk _ _ A.w, e _ _ A.c fun _ z => (nomatch z), A.cn, e.tk _ _ A.l, e _ _ A.b fun _ z => (nomatch z), A.bn⟩
theorem known_back {X : Cx} {σ : L2.St} {H0 H : Hp} {L : List Addr} {B : Heap} (hk : ∀ b ∈ L, ∀ o, H0 b = some o → H b = some o) (Z : Known X σ H L B) : Known X σ H0 L B :=
  ⟨Z.old, fun b m φ e => Z.ext b m φ (hk b m _ e), Z.cell, Z.any⟩
theorem rgV_nat (m : Nat) : rgV 0 (m : Int) = (List.range m).map fun k => V.int (k : Nat) := by
  unfold rgV
  rw [show ((m : Int) - 0).toNat = m by omega]
  exact List.map_congr_left fun i _ => by rw [Int.zero_add]
theorem re_keep {H H' : Hp} {L : List Addr} {Bad : Addr → Prop} (k : ∀ b o, ¬ Bad b → hidL H L b = some o → H' b = some o) : ∀ b o, ¬ Bad b → H b = some o → reL H H' L b = some o := fun b o nb e => by
  by_cases m : b ∈ L
  · exact (reL_in m).trans e
  · exact (reL_out m).trans (k b o nb ((hidL_out m).trans e))
theorem upTo_none : ∀ n : Nat, upTo (fun _ => false) n = []
  | 0 => rfl
  | n + 1 => by
    unfold upTo
    rw [if_neg (by decide)]
    exact upTo_none n
/-- where the law stands ahead of a turn -/
structure LawF (P : Program) (w : World) (K : PySem.W.Frag) (mg : Str → Option Value) (C CS CH : Addr) (kw n : Nat) (X : Cx) (b : Int) (m mm : Nat) (start : V) (p sh tl : Addr) (S0 : SS) (ts : List Addr) (L : List Addr) (H : Hp) : Prop where
  pp : ∃ x y z : Int, H p = some (.lst [.int x, .int y, .int z])
  shop : ShopAt K CS H sh S0
  many : S0.many = (mm : Int)
  cells : S0.cells = [(Sum.inr ("x" : Str), start)]
  locks : S0.locks = []
  beltN : S0.beltN = []
  belts : S0.belts = []
  m1 : 1 ≤ m
  mm1 : m ≤ mm
  mm4 : mm ≤ 4
  fs : FlatA start
  tlh : H tl = some (.lst (ts.map V.ref))
  tne : tl ≠ p
  tlen : ts.length = mm - m
  tat : ∀ (i : Nat) (t : Addr), ts[i]? = some t → H t = some (.tup [.str "told", .int ((m + i : Nat) : Int)])
  ext : ExtL H L
  wk : ∀ (σ : L2.St) (B : Heap), σ[2]? = some (some (.int b)) → Known X σ H L B → Works P w K mg B C CS CH kw n b m mm S0
section
variable {P : Program} {w : World} {K : PySem.W.Frag} {mg : Str → Option Value} {C CS CH : Addr} {kw n : Nat} {X : Cx} {b : Int} {m mm : Nat} {start : V} {p sh tl : Addr} {S0 : SS} {ts L : List Addr} {H H' : Hp}
/-- .. stands, where all but lists does, and the two lists do -/
theorem LawF.lk (Z : LawF P w K mg C CS CH kw n X b m mm start p sh tl S0 ts L H) (e : LK H H') (hp : ∃ x y z : Int, H' p = some (.lst [.int x, .int y, .int z])) (ht : H' tl = some (.lst (ts.map V.ref))) : LawF P w K mg C CS CH kw n X b m mm start p sh tl S0 ts L H' :=
  ⟨hp, e.shop Z.shop, Z.many, Z.cells, Z.locks, Z.beltN, Z.belts, Z.m1, Z.mm1, Z.mm4, Z.fs, ht, Z.tne, Z.tlen, fun i t h => e _ _ (Z.tat i t h) fun _ z => (nomatch z), fun a ha => by
    obtain ⟨φ, q⟩ := Z.ext a ha
    exact ⟨φ, e _ _ q fun _ z => (nomatch z)⟩, fun σ B h kb => Z.wk σ B h (known_back (fun a ha o q => by
    obtain ⟨φ, q2⟩ := Z.ext a ha
    rw [q2] at q
    cases q
    exact e _ _ q2 fun _ z => (nomatch z)) kb)⟩
theorem LawF.same (Z : LawF P w K mg C CS CH kw n X b m mm start p sh tl S0 ts L H) (e : Same H H') : LawF P w K mg C CS CH kw n X b m mm start p sh tl S0 ts L H' :=
  Z.lk (.of e) (by obtain ⟨x, y, z, h⟩ := Z.pp; exact ⟨x, y, z, e _ _ h⟩) (e _ _ Z.tlh)
end
section
variable {P : Program} {w : World} {K : PySem.W.Frag} {mg : Str → Option Value} {base : Heap} {C CS CP CH CV CR CT CW CC CN pS : Addr} {S : Addr → Option Sp} {Rel : Hp → V → V → Bool → Prop} {N kw n : Nat}
abbrev lawX (P : Program) (w : World) (K : PySem.W.Frag) (mg : Str → Option Value) (base : Heap) (f c : Addr) (A : Around) (outer : List Env) (s : Shared) (H0 : Hp) (E : XK) : Cx := (cxOf CX0 P w K mg base NLaw "law" (defScope sLaw) f (.ref c) A outer s H0 E).nox
theorem law_rest {f c fR fO : Addr} {fdR fdO : FuncData} {A : Around} {outer : List Env} {s : Shared} {H0 : Hp} {E : XK} (hr : Room (N + 1) (A.deeper (envOfC "law" (defScope sLaw) s.heap.objs.size f (.ref c)))) (B : Blt mg) (XR : RTxt K CR)
    (GD : GlobOk P w K mg base CX0 N "_law_draw" ["_law_draws", "_law_many"] spDraw)
    (GE : GlobOk P w K mg base CX0 N "_law_same" ["_law_found", "_law_due_here"] (spSame K 3))
    (GU : GlobOk P w K mg base CX0 N "_law_due" ["_law_base", "_law_many", "_law_order", "_law_start"] (spDue K))
    (GH : GlobOk P w K mg base CX0 N "_law_in_shops" ["_law_draws"] spShops)
    (MR : Mk K CR fR) (mR : mg "Run" = some (.ref CR)) (bR : Binds K fdR ["self", "shop"] []) (GR : ∀ B, (∀ b o, base.get? b = some o → B.get? b = some o) → FnOk P w K mg B CX0 N fR fdR ["self", "shop"] (spRI K CR CS CT (spCome P w K mg B C CS CP CH CV kw n)))
    (hO : Meth K CR "go" fO) (bO : Binds K fdO ["self", "k"] []) (GO : ∀ B, (∀ b o, base.get? b = some o → B.get? b = some o) → FnOk P w K mg B (L2.CX P w) N fO fdO ["self", "k"] (spGo P w K CR CT CP CW CC pS S Rel (spCome P w K mg B C CS CP CH CV kw n)))
    (GT : MethOk P w K mg base CX0 N CR "outcome" ["self"] (spOutcome K CR CT CP)) (GC : MethOk P w K mg base (L2.CX P w) N CR "cell" ["self", "name"] (spCellOf K CR CT CP CN (fun T => T.cells))) (GV : MethOk P w K mg base CX0 N CR "is_over" ["self"] (spOver K CR CT CP Rel))
    (hx : PySem.W.exmOne K (.ref CH) (.ref CH) = some true) {fL fW : Addr} (kL : KDct K w pS "look" (.ref fL)) (sL : S fL = some (spStep K CT dLook)) (kW : KDct K w pS "swap" (.ref fW)) (sW : S fW = some (spStep K CT dSwap)) :
    ∃ t, PSs (lawX P w K mg base f c A outer s H0 E) ((defBody sLaw).drop 5) t ∧ ∀ (H : Hp) (Q : VK) (a p sh tl wk : Addr) (b : Int) (m mm : Nat) (start : V) (S0 : SS) (ts L : List Addr) (q7 q9 q10 q11 q12 q13 q14 q15 q16 q17 q18 : Option V),
      LawF P w K mg C CS CH kw n (lawX P w K mg base f c A outer s H0 E) b m mm start p sh tl S0 ts L H → (∀ H', Q (.bl true) H') →
      t { nx := fun _ H' => Q .non H', rt := Q } [some (.ref a), some (.ref p), some (.int b), some (.int (m : Nat)), some start, some (.ref wk), some (.ref sh), q7, some (.ref tl), q9, q10, q11, q12, q13, q14, q15, q16, q17, q18] H := by
  have hr0 : Room N _ := hr.mono (by omega)
  obtain ⟨f2, d2, G2, m2, k2, b2⟩ := GD
  obtain ⟨f4, d4, G4, m4, k4, b4⟩ := GE
  obtain ⟨f5, d5, G5, m5, k5, b5⟩ := GU
  obtain ⟨f6, d6, G6, m6, k6, b6⟩ := GH
  obtain ⟨f7, d7, G7, h7, b7⟩ := GT
  obtain ⟨f8, d8, G8, h8, b8⟩ := GC
  obtain ⟨f9, d9, G9, h9, b9⟩ := GV
  refine ⟨_, (pss_cons (ps_for PassesOwn.never rfl (pi_range1 (by rfl) B.range (pa_cons pe_int pa_nil)) (pg_name (i := 9) scLaw.nd rfl (Or.inl rfl))
        (pss_cons (ps_par (i := 10) (j := 11) rfl scLaw.nd rfl rfl (by decide) rfl rfl (pa_cons (pe_lst pa_nil) (pa_cons (pe_listRg rfl rfl B.list (prg_1 (by rfl) B.range (pv 3))) pa_nil)) (by rfl))
        (pss_cons (ps_while PassesOwn.never (pt_cmpR (op_neD hr.units) (pv 11) (pe_lst pa_nil) (nomark _)) (pss_one (ps_expr (pe_bm PySem.F.plainAttrs_list PySem.F.slot_list_append PySem.F.type_list_append mt_append (pv 10)
          (pa_cons (pe_bm PySem.F.plainAttrs_list PySem.F.slot_list_pop PySem.F.type_list_pop mt_popAt (pv 11) (pa_cons (pe_call G2 hr0 rfl m2 k2 b2 .nil pass0 (pa_cons (pv 1) (pa_cons (pe_callB call_len_seq (by rfl) B.len PySem.boot_len (pa_cons (pv 11) pa_nil)) pa_nil))) pa_nil)) pa_nil)))))
        (pss_cons (ps_set (i := 12) scLaw.nd rfl (.inl rfl) (pe_makeH MR GR hr rfl mR bR .nil (fun _ => rfl) (pa_cons (pv 6) pa_nil)))
        (pss_cons (ps_for PassesOwn.never rfl (pi_list (pv 10)) (pg_name (i := 13) scLaw.nd rfl (Or.inl rfl)) (pss_one (ps_for PassesOwn.never rfl (pi_range1 (by rfl) B.range (pa_cons (pe_op op_add (pv 13) pe_int) pa_nil)) (pg_name (i := 14) scLaw.nd rfl (Or.inl rfl))
          (pss_one (ps_expr (pe_methJ (pv 12) XR.cl hO GO hr0 bO .nil (fun _ => rfl) (pa_cons (pv 13) pa_nil)))))))
        (pss_cons (ps_asg (pe_call G5 hr0 rfl m5 k5 b5 .nil pass0 (pa_cons (pv 2) (pa_cons (pv 3) (pa_cons (pv 10) (pa_cons (pv 4) pa_nil))))) (pg_tup (n := 3) rfl (pgs_cons (pg_name (i := 15) scLaw.nd rfl (Or.inl rfl)) (pgs_cons (pg_name (i := 16) scLaw.nd rfl (Or.inl rfl)) (pgs_cons (pg_name (i := 17) scLaw.nd rfl (Or.inl rfl)) pgs_nil)))))
        (pss_cons (ps_set (i := 18) scLaw.nd rfl (.inl rfl) (pe_meth0 (pv 12) XR.cl h7 G7 hr0 b7 .nil pass0))
        (pss_cons (ps_if (PW.pt (pw_or (pt_not (pt_val (pe_call G4 hr0 rfl m4 k4 b4 .nil pass0 (pa_cons (pe_ix ix_tup (pv 18) pe_int (fun _ _ => rfl)) (pa_cons (pe_op op_catU (pv 15) (pe_callTy call_tuple_of (by rfl) B.tuple (by decide +kernel) (pa_cons (pv 8) pa_nil))) pa_nil)))))
            (pw_or1 (pt_not (pt_val (pe_call G4 hr0 rfl m4 k4 b4 .nil pass0 (pa_cons (pe_slice sl_tupA (pe_ix ix_tup (pv 18) pe_int (fun _ _ => rfl)) po_none (po_some (pv 3))) (pa_cons (pv 16) pa_nil))))))))
          (pss_one (ps_ret pe_bl)) pss_nil)
        (pss_one (ps_if (pt_not (pt_val (pe_call G4 hr0 rfl m4 k4 b4 .nil pass0 (pa_cons (pe_lst (pa_cons (pe_meth (pv 12) XR.cl h8 G8 hr0 b8 .nil passN (pa_cons pe_str pa_nil)) (pa_cons (pe_meth0 (pv 12) XR.cl h9 G9 hr0 b9 .nil pass0) pa_nil)))
            (pa_cons (pe_lst (pa_cons (pv 17) (pa_cons pe_bl pa_nil))) pa_nil))))) (pss_one (ps_ret pe_bl)) pss_nil))))))))))
      (pss_one (ps_ret (pe_call G6 hr0 rfl m6 k6 b6 .nil pass0 (pa_cons (pv 1) pa_nil))))), fun H Q a p sh tl wk b m mm start S0 ts L q7 q9 q10 q11 q12 q13 q14 q15 q16 q17 q18 F k => ?_⟩
  refine ⟨_, rfl, by decide, by decide, ?_⟩
  refine for_range (lo := 0) (n := 3) (fun j σ H' => ∃ (q9 q10 q11 q12 q13 q14 q15 q16 q17 q18 : Option V), σ = [some (.ref a), some (.ref p), some (.int b), some (.int (m : Nat)), some start, some (.ref wk), some (.ref sh), q7, some (.ref tl), q9, q10, q11, q12, q13, q14, q15, q16, q17, q18] ∧
      LawF P w K mg C CS CH kw n (lawX P w K mg base f c A outer s H0 E) b m mm start p sh tl S0 ts L H') ⟨_, _, _, _, _, _, _, _, _, _, rfl, F⟩ ?_ ?_
  · rintro j σ H1 hj ⟨q9, q10, q11, q12, q13, q14, q15, q16, q17, q18, rfl, F⟩
    have m4' := F.mm4
    have m1' := F.mm1
    refine ⟨Nat.zero_le _, fun lo hlo => ⟨_, rfl, (m : Nat), rfl, ⟨by omega, by omega, by omega, by omega, by omega⟩, fun ll hll => ⟨_, _, rfl, ?_⟩⟩⟩
    rw [rgV_nat]
    have ne1 : lo ≠ p := by
      obtain ⟨x, y, z, h⟩ := F.pp
      exact fun e => by rw [e, h] at hlo; cases hlo
    have ne2 : lo ≠ tl := fun e => by
      have h := F.tlh
      rw [e, h] at hlo
      cases hlo
    have so := same_new (o := .lst []) hlo
    have ne3 : ll ≠ p := by
      obtain ⟨x, y, z, h⟩ := F.pp
      exact fun e => by rw [e, so _ _ h] at hll; cases hll
    have ne4 : ll ≠ tl := fun e => by
      have h := so _ _ F.tlh
      rw [e, h] at hll
      cases hll
    have ne5 : ll ≠ lo := fun e => by
      rw [e, upd_same] at hll
      cases hll
    have F2 := (F.same so).same (same_new (o := .lst ((List.range m).map fun k => V.int (k : Nat))) hll)
    have o2 := same_new (o := .lst ((List.range m).map fun k => V.int (k : Nat))) hll _ _ (upd_same (H := H1) (a := lo) (o := .lst []))
    have l2 : (upd (upd H1 lo (.lst [])) ll (.lst ((List.range m).map fun k => V.int (k : Nat)))) ll = some (.lst ((List.range m).map fun k => V.int (k : Nat))) := upd_same
    generalize upd (upd H1 lo (.lst [])) ll (.lst ((List.range m).map fun k => V.int (k : Nat))) = H2 at *
    refine ⟨fun u σ H' => ∃ (os ls : List Nat), σ = [some (.ref a), some (.ref p), some (.int b), some (.int (m : Nat)), some start, some (.ref wk), some (.ref sh), q7, some (.ref tl), some (.int (0 + (j : Nat))), some (.ref lo), some (.ref ll), q12, q13, q14, q15, q16, q17, q18] ∧ ls.length = u ∧
      LawF P w K mg C CS CH kw n (lawX P w K mg base f c A outer s H0 E) b m mm start p sh tl S0 ts L H' ∧ H' lo = some (.lst (os.map fun k => V.int (k : Nat))) ∧ H' ll = some (.lst (ls.map fun k => V.int (k : Nat))) ∧ (os ++ ls).Perm (List.range m), ⟨m, [], List.range m, rfl, List.length_range, F2, o2, l2, .refl _⟩, ?_⟩
    rintro u σ H3 ⟨os, ls, rfl, hu, F3, o3, l3, pm⟩
    have len4 : os.length + ls.length = m := by
      have := pm.length_eq
      rw [List.length_append, List.length_range] at this
      exact this
    refine ⟨_, rfl, Nat.zero_le _, fun e he => ⟨.list (ls.map fun k => PyData.int (k : Nat)), .list [], .lst (SqL.of (same_new he _ _ l3)) (dpall_nat ls), .lst (SqL.of upd_same) .nil, shaped_nat ls (by omega), rfl, _, rfl, ?_⟩⟩
    have se := same_new (o := .lst []) he
    have F4 := F3.same se
    have o4 := se _ _ o3
    have l4 := se _ _ l3
    generalize upd H3 e (.lst []) = H4 at *
    rcases ls with _ | ⟨l0, lr⟩
    · refine iteF ?_
      have po : os.Perm (List.range m) := by
        have := pm
        rw [List.append_nil] at this
        exact this
      have nd : os.Nodup := po.nodup_iff.mpr List.nodup_range
      have ltm : ∀ k ∈ os, k < m := fun k hk => List.mem_range.mp (po.mem_iff.mp hk)
      have om : os.length = m := by
        have := po.length_eq
        rw [List.length_range] at this
        exact this
      clear pm F F2 F3 o2 l2 o3 l3 se so hu len4
      refine ⟨_, rfl, fun r dx hr1 hdx hne => ?_⟩
      have s5 : Same H4 (upd (upd H4 dx (.own r)) r (.ins CR dx [])) := fun b o e => by
        rw [upd_ne (ne_of_none e hr1), upd_ne (ne_of_none e hdx)]
        exact e
      have ho : (upd (upd H4 dx (.own r)) r (.ins CR dx [])) r = some (.ins CR dx []) := upd_same
      have F5 := F4.same s5
      generalize upd (upd H4 dx (.own r)) r (.ins CR dx []) = H5 at *
      refine ⟨L, F5.ext, fun B kb => ?_⟩
      have nx5 := NX.hid F5.ext
      refine new_run (base := B) hx (F5.wk _ B rfl kb) (nx5.shop F5.shop) (nx5 _ _ ho fun _ z => (nomatch z)) F5.many (by omega) F5.cells F5.locks F5.beltN F5.belts fun R H6 but fp fd st => ⟨rfl, fun non => ?_⟩
      have notL : ∀ {z : Addr} {xs : List V}, hidL H5 L z = none → H6 z = some (.lst xs) → H4 z = none := fun {z xs} h1 h2 => by
        have zl : z ∉ L := fun m => by
          rw [non z m] at h2
          cases h2
        rw [hidL_out zl] at h1
        exact s5.free h1
      have fp4 := notL fp st.run.at_.p
      have fd4 := notL fd st.run.at_.d
      have old : Same H4 (reL H5 H6 L) := fun b o e => re_keep (Bad := (· = r)) (fun b o nb e => but b o nb e) b o (ne_of_none e hr1) (s5 _ _ e)
      replace st := st.nx (Same.nx (same_re (H := H5) non))
      clear nx5 but fp fd notL non ho F5 kb
      generalize reL H5 H6 L = H7 at *
      refine ⟨_, rfl, lo, rfl, ⟨_, SqL.of (old _ _ o4)⟩, ?_⟩
      refine for_list (K := K) (a := lo) (xs := os.map fun k => V.int (k : Nat)) (fun i σ H' => ∃ (q13 q14 : Option V) (R : RS) (al : Nat → List V) (D : Nat), σ = [some (.ref a), some (.ref p), some (.int b), some (.int (m : Nat)), some start, some (.ref wk), some (.ref sh), q7, some (.ref tl), some (.int (0 + (j : Nat))), some (.ref lo), some (.ref ll), some (.ref r), q13, q14, q15, q16, q17, q18] ∧
        Same H4 H' ∧ RunSt K CR CT CP b m mm sh H' r R (hereAt b os start i) al D ∧ D ≤ 10 * i ∧ (∀ i' k, i' < i → os[i']? = some k → al k = List.replicate (k + 1) (hereAt b os start i')) ∧ (∀ k, (∀ i', i' < i → os[i']? ≠ some k) → al k = []) ∧ H4 R.pl = none ∧ H4 R.dn = none)
        ⟨_, _, R, _, 0, rfl, old, st, Nat.le_refl _, fun i' k h => absurd h (Nat.not_lt_zero _), fun _ _ => rfl, fp4, fd4⟩ (fun i σ H' _ ⟨_, _, _, _, _, _, e, _⟩ => SqL.of (e _ _ o4)) ?_ ?_
      · rintro i x σ H8 hx8 ⟨q13, q14, R, al, D, rfl, old, st, hD, hdn, hun, fp4, fd4⟩
        obtain ⟨kk, hkk, rfl⟩ : ∃ kk, os[i]? = some kk ∧ x = V.int (kk : Nat) := by
          rw [List.getElem?_map] at hx8
          obtain ⟨z, h1, h2⟩ := Option.map_eq_some_iff.mp hx8
          exact ⟨z, h1, h2.symm⟩
        have km : kk < m := ltm _ (List.mem_of_getElem? hkk)
        have il : i < os.length := (List.getElem?_eq_some_iff.mp hkk).1
        have al0 : al kk = [] := hun kk fun i' hi' e => by
          have := nodup_at nd e hkk
          omega
        have vf := hereAt_flat (b := b) (order := os) F4.fs i
        have vn : hereAt b os start (i + 1) = .int (b + (kk : Nat)) := hereAt_next hkk
        refine ⟨_, rfl, _, _, rfl, rfl, ((kk + 1 : Nat) : Int), rfl, by omega, by omega, ?_⟩
        refine for_range (lo := 0) (n := kk + 1) (fun t σ H' => ∃ (q14 : Option V) (R : RS) (D : Nat), σ = [some (.ref a), some (.ref p), some (.int b), some (.int (m : Nat)), some start, some (.ref wk), some (.ref sh), q7, some (.ref tl), some (.int (0 + (j : Nat))), some (.ref lo), some (.ref ll), some (.ref r), some (.int (kk : Nat)), q14, q15, q16, q17, q18] ∧
          Same H4 H' ∧ RunSt K CR CT CP b m mm sh H' r R (if t = kk + 1 then .int (b + (kk : Nat)) else hereAt b os start i) (fun z => if z = kk then List.replicate t (hereAt b os start i) else al z) D ∧ D ≤ 10 * i + t ∧ H4 R.pl = none ∧ H4 R.dn = none)
          ⟨_, R, D, rfl, old, ?_, hD, fp4, fd4⟩ ?_ ?_
        · have e : (fun z => if z = kk then List.replicate 0 (hereAt b os start i) else al z) = al := by
            funext z
            split
            · rename_i h
              rw [h, al0]
              rfl
            · rfl
          rw [e, if_neg (by omega)]
          exact st
        · rintro t σ H9 ht ⟨q14, R, D, rfl, old, st, hD, fp4, fd4⟩
          have ht' : t < kk + 1 := ht
          rw [if_neg (by omega)] at st
          have F9 := F4.same old
          have hR := st.run.at_
          refine ⟨_, rfl, r, R.dx, _, rfl, hR.ob, rF_no (by decide +kernel) (by decide +kernel) (by decide +kernel) (by decide +kernel), _, rfl, L, F9.ext, fun B kb => ?_⟩
          have nx := NX.hid F9.ext
          refine go_num (base := B) hx (F9.wk _ B rfl kb) kL sL kW sW (nx.shop F9.shop) (st.nx nx) km F9.mm1 (if_pos rfl) (by omega) vf (by omega) (by omega) fun R' H' b3 ep ed st' non => ?_
          have keep := re_keep (H := H9) (L := L) (Bad := fun z => z = r ∨ z = R.pl ∨ z = R.dn) (fun b o nb e => b3 b o (fun z => nb (.inl z)) (fun z => nb (.inr (.inl z))) (fun z => nb (.inr (.inr z))) e)
          have old' : Same H4 (reL H9 H' L) := fun b o e => keep b o (by
            rintro (h | h | h)
            · exact ne_of_none e hr1 h
            · exact ne_of_none e fp4 h
            · exact ne_of_none e fd4 h) (old _ _ e)
          have st2 := st'.nx (Same.nx (same_re (H := H9) non))
          refine ⟨_, R', D + 1, rfl, old', ?_, by omega, by rw [ep]; exact fp4, by rw [ed]; exact fd4⟩
          have e1 : (if t + 1 = kk + 1 then V.int (b + (kk : Nat)) else hereAt b os start i) = if t = kk then V.int (b + (kk : Nat)) else hereAt b os start i := by
            by_cases c : t = kk
            · rw [if_pos c, if_pos (by omega)]
            · rw [if_neg c, if_neg (by omega)]
          have e2 : (fun z => if z = kk then List.replicate (t + 1) (hereAt b os start i) else al z) = fun z => if z = kk then List.replicate (t + 1) (hereAt b os start i) else (if z = kk then List.replicate t (hereAt b os start i) else al z) := by
            funext z
            by_cases c : z = kk
            · rw [if_pos c, if_pos c]
            · rw [if_neg c, if_neg c, if_neg c]
          rw [e1, e2]
          exact st2
        · rintro σ H9 ⟨q14, R, D, rfl, old, st, hD, fp4, fd4⟩
          rw [if_pos rfl, ← vn] at st
          refine ⟨_, _, R, _, D, rfl, old, st, by omega, fun i' k' hi' e => ?_, fun k' hk' => ?_, fp4, fd4⟩
          · by_cases c : i' = i
            · subst c
              rw [hkk] at e
              obtain rfl := Option.some.inj e
              rw [if_pos rfl]
            · rw [if_neg fun z => c (nodup_at nd e (by rw [z]; exact hkk))]
              exact hdn i' k' (by omega) e
          · rw [if_neg fun z => hk' i (Nat.lt_succ_self _) (by rw [z]; exact hkk)]
            exact hun k' fun i' h => hk' i' (by omega)
      · rintro σ H8 ⟨q13, q14, R, al, D, rfl, old, st, hD, hdn, hun, fp4, fd4⟩
        rw [List.length_map] at st hdn
        have F8 := F4.same old
        have hR := st.run.at_
        refine ⟨_, rfl, _, rfl, _, rfl, _, rfl, b, m, lo, os, start, rfl, SqL.of (old _ _ o4), by omega, by omega, ltm, nd, F4.fs, fun t te ts' es ss H9 s9 ht he hs les lss each => ?_⟩
        refine ⟨t, _, rfl, SqT.of ht, rfl, _, _, rfl, _, _, rfl, _, _, rfl, rfl, ?_⟩
        have R9 := hR.same s9
        have k1 : R.T.cells.map (·.1) = ([("x" : Str)] : List Str).map Sum.inr := by
          rw [st.c]
          rfl
        refine ⟨_, rfl, r, R.dx, _, rfl, R9.ob, rF_no (by decide +kernel) (by decide +kernel) (by decide +kernel) (by decide +kernel), r, R, [("x" : Str)], [], [], rfl, R9, by rw [st.len]; omega, k1, by decide, by rw [st.h]; rfl, by decide, by rw [st.w]; rfl, by decide, fun tt ee ta tb tc ww HA sA ett eee eww => ?_⟩
        have S8 : Same H8 HA := s9.trans sA
        have RA := hR.same S8
        have FA := F8.same S8
        have plc : ∀ (j : Nat) (x : PS), R.places[j]? = some x → x.pend = .non ∧ (j < m → ∃ i' tf t2, os[i']? = some j ∧ x.fin = .ref tf ∧ SqT K HA tf [.str "told", toldN b j (hereAt b os start i')] ∧ x.words = [.int (j : Nat), .ref t2] ∧ SqT K HA t2 [hereAt b os start i', .int (j : Nat)]) ∧
            (m ≤ j → ∃ tf, x.fin = .ref tf ∧ SqT K HA tf [.str "told", .int (j : Nat)]) := fun j x e => by
          obtain ⟨ea, eb⟩ := st.pl j x e
          rcases eb with ⟨hj, eb⟩ | ⟨hj, _, ep, _, tf, ef, et⟩
          · obtain ⟨i', hi'⟩ := List.mem_iff_getElem?.mp (po.mem_iff.mpr (List.mem_range.mpr hj))
            have ha := hdn i' j (List.getElem?_eq_some_iff.mp hi').1 hi'
            rw [ea, ha] at eb
            rcases eb with ⟨h, _⟩ | ⟨h, _⟩ | ⟨_, ep, a0, tf, t2, h3, ef, et, ew, et2⟩
            · rw [List.length_replicate] at h
              omega
            · rw [List.length_replicate] at h
              omega
            · rw [List.getElem?_replicate, if_pos (Nat.lt_succ_self _)] at h3
              obtain rfl := (Option.some.inj h3)
              exact ⟨ep, fun _ => ⟨i', tf, t2, hi', ef, seqT_same S8 et, ew, seqT_same S8 et2⟩, fun z => by omega⟩
          · exact ⟨ep, fun z => by omega, fun _ => ⟨tf, ef, seqT_same S8 et⟩⟩
        have heA := sA _ _ he
        have hsA := sA _ _ hs
        refine ⟨_, rfl, tt, _, 0, .ref ee, rfl, rfl, SqT.of ett, atI_nat (j := 0) rfl, _, rfl, _, rfl, tl, _, rfl, .inl ⟨SqL.of FA.tlh, fun tq htq => ?_⟩⟩
        have sq := same_new (o := .tup (ts.map V.ref)) htq
        refine ⟨te, tq, es, ts.map V.ref, rfl, rfl, SqT.of (sq _ _ heA), SqT.of upd_same, ?_, fun u G sG hu => ⟨_, _, rfl, ?_, fun G' sG' => ?_⟩⟩
        · rw [les, List.length_map, F8.tlen]
          exact Nat.le_trans (by omega : _ ≤ 4) (small_sz (n := 4) (by decide))
        · have SG : Same HA G := sq.trans sG
          have lp : R.places.length = mm := st.len
          refine .tup (SqT.of (SG _ _ eee)) hu (by rw [List.length_map, List.length_append, les, List.length_map, F8.tlen, lp]; have := F8.mm1; omega) (by rw [List.length_map, lp]; omega) fun i x y h1 h2 => ?_
          rw [List.getElem?_map] at h1
          obtain ⟨P0, hP, rfl⟩ := Option.map_eq_some_iff.mp h1
          obtain ⟨_, pl1, pl2⟩ := plc i P0 hP
          by_cases c : i < m
          · obtain ⟨i', tf, t2, hi', ef, et, _, _⟩ := pl1 c
            obtain ⟨te2, ts2, tt2, a1, a2, a3, a4, a5⟩ := each i' i hi'
            rw [List.getElem?_append_left (by rw [les]; exact c), a1] at h2
            obtain rfl := Option.some.inj h2
            rw [ef]
            refine .tup (seqT_same SG et) (SqT.of (SG _ _ (sA _ _ a3))) rfl (by show 2 ≤ 1000; decide) fun i2 x2 y2 h1 h2 => ?_
            match i2, h1, h2 with
            | 0, h1, h2 =>
              cases h1
              cases h2
              exact .str _ _
            | 1, h1, h2 =>
              obtain rfl := Option.some.inj h1
              obtain rfl := Option.some.inj h2
              unfold toldN
              split
              · exact .str _ _
              · exact .int _ _
          · obtain ⟨tf, ef, et⟩ := pl2 (by omega)
            rw [List.getElem?_append_right (by rw [les]; omega), les, List.getElem?_map] at h2
            obtain ⟨t3, h3, rfl⟩ := Option.map_eq_some_iff.mp h2
            have q3 := FA.tat _ _ h3
            rw [show m + (i - m) = i by omega] at q3
            rw [ef]
            refine .tup (seqT_same SG et) (SqT.of (SG _ _ q3)) rfl (by show 2 ≤ 1000; decide) fun i2 x2 y2 h1 h2 => ?_
            match i2, h1, h2 with
            | 0, h1, h2 =>
              cases h1
              cases h2
              exact .str _ _
            | 1, h1, h2 =>
              cases h1
              cases h2
              exact .int _ _
        · have SG : Same HA G' := (sq.trans sG).trans sG'
          have tw2 : ∀ (z : Addr) (G : Hp), Same HA G → SqT K G z ((R.places.map fun x => V.ref x.tw).take m) → Tw K G 3 (.ref z) (.ref ts') := fun z G sG hz => by
            refine .tup hz (SqT.of (sG _ _ hsA)) (by rw [List.length_take, List.length_map, st.len, lss]; have := F8.mm1; omega) (by rw [List.length_take, List.length_map, st.len]; omega) fun i x y h1 h2 => ?_
            have im : i < m := by
              have := (List.getElem?_eq_some_iff.mp h2).1
              omega
            rw [List.getElem?_take, if_pos im, List.getElem?_map] at h1
            obtain ⟨P0, hP, rfl⟩ := Option.map_eq_some_iff.mp h1
            obtain ⟨i', tf, t2, hi', _, _, ew, et2⟩ := (plc i P0 hP).2.1 im
            obtain ⟨te2, ts2, tt2, a1, a2, a3, a4, a5⟩ := each i' i hi'
            rw [a2] at h2
            obtain rfl := Option.some.inj h2
            have hW := seqT_same sG (RA.e P0 (List.mem_of_getElem? hP)).w
            rw [ew] at hW
            refine .tup hW (SqT.of (sG _ _ (sA _ _ a4))) rfl (by show 2 ≤ 1000; decide) fun i2 x2 y2 h1 h2 => ?_
            match i2, h1, h2 with
            | 0, h1, h2 =>
              cases h1
              cases h2
              exact .int _ _
            | 1, h1, h2 =>
              obtain rfl := Option.some.inj h1
              obtain rfl := Option.some.inj h2
              refine .tup (seqT_same sG et2) (SqT.of (sG _ _ (sA _ _ a5))) rfl (by show 2 ≤ 1000; decide) fun i3 x3 y3 h1 h2 => ?_
              match i3, h1, h2 with
              | 0, h1, h2 =>
                obtain rfl := Option.some.inj h1
                obtain rfl := Option.some.inj h2
                rcases hereAt_flat (b := b) (order := os) F4.fs i' with ⟨z, e⟩ | ⟨z, e⟩
                · rw [e]
                  exact .int _ _
                · rw [e]
                  exact .str _ _
              | 1, h1, h2 =>
                cases h1
                cases h2
                exact .int _ _
          refine ⟨_, rfl, iteF ?_⟩
          have ix0 : HT.sIx (R.places.map fun x => V.ref x.tw).length (R.places.map fun x => V.ref x.tw).length (some (m : Int)) = m := by
            rw [HT.sIx_nat, List.length_map, st.len]
            have := F8.mm1
            omega
          refine ⟨_, rfl, tt, _, 4, .ref ww, rfl, rfl, SqT.of (SG _ _ ett), atI_nat (j := 4) rfl, _, rfl, (m : Nat), rfl, ww, _, rfl, SqT.of (SG _ _ eww), fun whole => ?_, fun _ q hq => ?_⟩
          · refine ⟨_, rfl, _, _, rfl, tw2 ww G' SG ?_, fun G2 s2 => ⟨_, rfl, iteF ?_⟩⟩
            · have e := whole.2
              rw [ix0] at e
              rw [e, List.take_length]
              exact SqT.of (SG _ _ eww)
            have SX : Same H8 G2 := (S8.trans SG).trans s2
            have RB := hR.same SX
            refine ⟨_, rfl, r, R.dx, _, rfl, RB.ob, rF_no (by decide +kernel) (by decide +kernel) (by decide +kernel) (by decide +kernel), r, R, .str "x", [("x" : Str)], true, rfl, RB, k1, .inl ⟨("x" : Str), rfl, by decide +kernel⟩, (fun z => nomatch z), fun _ => ⟨("x" : Str), hereAt b os start os.length, rfl, by show valV R.T.cells (Sum.inr ("x" : Str)) = _; rw [st.c]; rfl, ?_⟩⟩
            refine ⟨_, rfl, r, R.dx, _, rfl, RB.ob, rF_no (by decide +kernel) (by decide +kernel) (by decide +kernel) (by decide +kernel), r, R, fun _ => false, rfl, RB, by rw [st.len]; omega, fun i y hy => by rw [(plc i y hy).1]; exact can_end, fun G3 s3 => ?_⟩
            rw [upTo_none]
            refine ⟨two_sz, fun v1 hv1 => ⟨_, rfl, two_sz, fun v2 hv2 => ⟨_, _, rfl, .lst (SqL.of (same_new hv2 _ _ upd_same)) (SqL.of upd_same) rfl (by show 2 ≤ 1000; decide) fun i x y h1 h2 => ?_, fun G4 s4 => ⟨_, rfl, iteF ?_⟩⟩⟩⟩
            · match i, h1, h2 with
              | 0, h1, h2 =>
                obtain rfl := Option.some.inj h1
                obtain rfl := Option.some.inj h2
                rcases hereAt_flat (b := b) (order := os) F4.fs os.length with ⟨z, e⟩ | ⟨z, e⟩
                · rw [e]
                  exact .int _ _
                · rw [e]
                  exact .str _ _
              | 1, h1, h2 =>
                cases h1
                cases h2
                exact .bl _ _
            · exact ⟨_, _, _, _, _, _, _, _, _, _, rfl, F4.same ((((old.trans SX).trans s3).trans ((same_new hv1).trans (same_new hv2))).trans s4)⟩
          · refine ⟨_, rfl, _, _, rfl, tw2 q _ (SG.trans (same_new hq)) ?_, fun G2 s2 => ⟨_, rfl, iteF ?_⟩⟩
            · refine SqT.of (upd_same.trans ?_)
              unfold cutV
              rw [ix0]
              rfl
            have SX : Same H8 G2 := ((S8.trans SG).trans (same_new hq)).trans s2
            have RB := hR.same SX
            refine ⟨_, rfl, r, R.dx, _, rfl, RB.ob, rF_no (by decide +kernel) (by decide +kernel) (by decide +kernel) (by decide +kernel), r, R, .str "x", [("x" : Str)], true, rfl, RB, k1, .inl ⟨("x" : Str), rfl, by decide +kernel⟩, (fun z => nomatch z), fun _ => ⟨("x" : Str), hereAt b os start os.length, rfl, by show valV R.T.cells (Sum.inr ("x" : Str)) = _; rw [st.c]; rfl, ?_⟩⟩
            refine ⟨_, rfl, r, R.dx, _, rfl, RB.ob, rF_no (by decide +kernel) (by decide +kernel) (by decide +kernel) (by decide +kernel), r, R, fun _ => false, rfl, RB, by rw [st.len]; omega, fun i y hy => by rw [(plc i y hy).1]; exact can_end, fun G3 s3 => ?_⟩
            rw [upTo_none]
            refine ⟨two_sz, fun v1 hv1 => ⟨_, rfl, two_sz, fun v2 hv2 => ⟨_, _, rfl, .lst (SqL.of (same_new hv2 _ _ upd_same)) (SqL.of upd_same) rfl (by show 2 ≤ 1000; decide) fun i x y h1 h2 => ?_, fun G4 s4 => ⟨_, rfl, iteF ?_⟩⟩⟩⟩
            · match i, h1, h2 with
              | 0, h1, h2 =>
                obtain rfl := Option.some.inj h1
                obtain rfl := Option.some.inj h2
                rcases hereAt_flat (b := b) (order := os) F4.fs os.length with ⟨z, e⟩ | ⟨z, e⟩
                · rw [e]
                  exact .int _ _
                · rw [e]
                  exact .str _ _
              | 1, h1, h2 =>
                cases h1
                cases h2
                exact .bl _ _
            · exact ⟨_, _, _, _, _, _, _, _, _, _, rfl, F4.same ((((old.trans SX).trans s3).trans ((same_new hv1).trans (same_new hv2))).trans s4)⟩
    · refine iteT ⟨fun σ H' => ∃ (os ls : List Nat), σ = [some (.ref a), some (.ref p), some (.int b), some (.int (m : Nat)), some start, some (.ref wk), some (.ref sh), q7, some (.ref tl), some (.int (0 + (j : Nat))), some (.ref lo), some (.ref ll), q12, q13, q14, q15, q16, q17, q18] ∧ ls.length + 1 = u ∧
        LawF P w K mg C CS CH kw n (lawX P w K mg base f c A outer s H0 E) b m mm start p sh tl S0 ts L H' ∧ H' lo = some (.lst (os.map fun k => V.int (k : Nat))) ∧ H' ll = some (.lst (ls.map fun k => V.int (k : Nat))) ∧ (os ++ ls).Perm (List.range m), fun σ H' h => ?_, ?_⟩
      · obtain ⟨os, ls, e1, e2, h⟩ := h
        exact ⟨ls.length, by omega, os, ls, e1, rfl, h⟩
      obtain ⟨x, y, z, hp⟩ := F4.pp
      refine ⟨_, rfl, .inl ⟨rfl, _, SqL.of o4⟩, _, rfl, .inl ⟨rfl, _, SqL.of l4⟩, _, rfl, _, rfl, ll, _, rfl, .inl (SqL.of l4), p, x, y, z, (((l0 :: lr).map fun k => V.int (k : Nat)).length : Nat), rfl, hp, ?_, ?_, fun r x' y' z' r0 r1 => ?_⟩
      · rw [List.length_map, List.length_cons]
        omega
      · rw [List.length_map]
        omega
      rw [List.length_map] at r1
      obtain ⟨i, rfl, hi⟩ : ∃ i : Nat, r = (i : Int) ∧ i < (l0 :: lr).length := ⟨r.toNat, by omega, by omega⟩
      have hy := List.getElem?_eq_getElem hi
      generalize (l0 :: lr)[i] = g at hy
      have l5 : (upd H4 p (.lst [.int x', .int y', .int z'])) ll = _ := (upd_ne ne3).trans l4
      refine ⟨ll, _, (i : Nat), i, .int (g : Nat), rfl, rfl, l5, by omega, by omega, ?_, ?_, ?_⟩
      · exact seqIndex_of (Int.natCast_nonneg i) (by rw [List.length_map]; omega)
      · rw [List.getElem?_map, hy]
        rfl
      have o5 : (upd (upd H4 p (.lst [.int x', .int y', .int z'])) ll (.lst (((l0 :: lr).map fun k => V.int (k : Nat)).eraseIdx i))) lo = some (.lst (os.map fun k => V.int (k : Nat))) := (upd_ne (Ne.symm ne5)).trans ((upd_ne ne1).trans o4)
      refine ⟨lo, _, _, rfl, rfl, o5, ?_, os ++ [g], (l0 :: lr).eraseIdx i, rfl, ?_, ?_, ?_, ?_, ?_⟩
      · rw [List.length_map]
        exact Nat.lt_of_le_of_lt (by omega : os.length ≤ 4) (Nat.lt_of_lt_of_le (by decide : 4 < 5) (small_sz (n := 5) (by decide)))
      · rw [← hu]
        exact erase_len _ _ _ hy
      · have pt : tl ≠ p := F4.tne
        refine F4.lk ((LK.put hp).trans ((LK.put l5).trans (LK.put o5))) ⟨x', y', z', ?_⟩ ?_
        · exact (upd_ne (Ne.symm ne1)).trans ((upd_ne (Ne.symm ne3)).trans upd_same)
        · exact (upd_ne (Ne.symm ne2)).trans ((upd_ne (Ne.symm ne4)).trans ((upd_ne pt).trans F4.tlh))
      · rw [List.map_append]
        exact upd_same
      · rw [← erase_map]
        exact (upd_ne ne5).trans upd_same
      · refine List.Perm.trans ?_ pm
        rw [List.append_assoc]
        exact List.Perm.append_left os (erase_perm _ _ _ hy)
  · rintro σ H1 ⟨q9, q10, q11, q12, q13, q14, q15, q16, q17, q18, rfl, F⟩
    obtain ⟨x, y, z, hp⟩ := F.pp
    exact ⟨_, rfl, p, x, y, z, rfl, hp, fun H' => k H'⟩
end
end TW
namespace TW
open PySem PySem.Spec PyProof.Rows L2 LamX
def spLaw (K : PySem.W.Frag) (T : List (Addr × Str)) : Sp := fun vs H Q _ => ∃ (a : Addr) (ns : List Int), vs = [.ref a] ∧ SqL K H a (ns.map V.int) ∧ ns.length ≤ 63 ∧ Tabs T H ∧ ∀ H', Q (.bl true) H'
theorem rep_eq {α : Type} (k : Nat) (x : α) : (List.replicate k [x]).flatten = List.replicate k x := by
  induction k with
  | zero => rfl
  | succ m ih => rw [List.replicate_succ, List.flatten_cons, ih, List.replicate_succ]; rfl
theorem mk_shop {K : PySem.W.Frag} {CS : Addr} {n : Nat} {SI : SIn} {wv cv lv bv : V} {G2 : Hp} {x dx : Addr} {Q : VK} {E : XK} (Z : Good K G2 n SI wv cv lv bv) (h1 : G2 x = none) (h2 : G2 dx = none) (ne : dx ≠ x)
    (k : ∀ (wt cd lt bd : Addr) (G : Hp), Same G2 G → ShopAt K CS G x (SI.ss dx wt cd lt bd) → Q .non G) :
    spSI K CS n (.ref x :: [wv, cv, lv, bv, .int SI.lo, .int SI.mo]) (upd (upd G2 dx (.own x)) x (.ins CS dx [])) Q E := by
  have s1 : Same G2 (upd (upd G2 dx (.own x)) x (.ins CS dx [])) := fun b o e => by
    rw [upd_ne (ne_of_none e h1), upd_ne (ne_of_none e h2)]
    exact e
  exact ⟨x, dx, SI, wv, cv, lv, bv, rfl, upd_same, Z.same s1, fun wt cd lt bd G f A => k wt cd lt bd G (fun b o e => f b o (ne_of_none e h1) (s1 b o e)) A⟩
theorem FlatA.vn {K : PySem.W.Frag} {H : Hp} {n : Nat} {v : V} (h : FlatA v) : Vn K H n v true := by
  rcases h with ⟨i, rfl⟩ | ⟨s, rfl⟩
  · exact .int _ _
  · exact .str _ _
theorem seqT_extN2 {K : PySem.W.Frag} {H H' : Hp} {a : Addr} {xs : List V} (e : ∀ b o, H b = some o → (∀ ps, o ≠ .tbl ps) → H' b = some o) (h : SqT K H a xs) : SqT K H' a xs := by
  rcases h with (h | ⟨o, h⟩) | h
  · exact .inl (.inl (e _ _ h (fun _ z => by cases z)))
  · exact .inl (.inr ⟨o, e _ _ h (fun _ z => by cases z)⟩)
  · exact .inr h
theorem same2 {H : Hp} {d : Addr} {o o2 : HO} (h : H d = none) : Same H (upd (upd H d o) d o2) := fun b u e => by
  rw [upd_ne (ne_of_none e h), upd_ne (ne_of_none e h)]
  exact e
section
variable {P : Program} {w : World} {K : PySem.W.Frag} {mg : Str → Option Value} {base : Heap} {C CS CP CH CV CR CT CW CC CN pS t0 : Addr} {S : Addr → Option Sp} {Rel : Hp → V → V → Bool → Prop} {N kN n : Nat}
theorem law_cells {f c : Addr} {A : Around} {outer : List Env} {s : Shared} {H0 : Hp} {E : XK} : (lawX P w K mg base f c A outer s H0 E).env.cells = [(("_law_base" : Str), s.heap.objs.size + 1)] := by rfl
abbrev qLam : Str := "law.<locals>.<lambda>"
theorem ok_law {f c Pt fI fR fO fN fB : Addr} {fd fdI fdR fdO fdN fdB : FuncData} {dsB : List Value} (F : FunC K "law" "law" sLaw f fd c) (B : Blt mg) (TB : TabB base mg c Pt)
    (MS : Mk K CS fI) (GI : FnOk P w K mg base CX0 N fI fdI psSI (spSI K CS n)) (mS : mg "Shop" = some (.ref CS)) (FI : FunSI K t0 fI fdI) (ht0 : ∀ H, SqT K H t0 []) (XS : STxt K CS) (XR : RTxt K CR)
    (GS : GlobOk P w K mg base CX0 N "_law_source" ["_law_script", "_law_at"] (spSource K))
    (GD : GlobOk P w K mg base CX0 N "_law_draw" ["_law_draws", "_law_many"] spDraw)
    (GK : GlobOk P w K mg base CX0 N "_law_pick" ["_law_draws", "_law_xs"] (spPick K))
    (GE : GlobOk P w K mg base CX0 N "_law_same" ["_law_found", "_law_due_here"] (spSame K 3))
    (GU : GlobOk P w K mg base CX0 N "_law_due" ["_law_base", "_law_many", "_law_order", "_law_start"] (spDue K))
    (GH : GlobOk P w K mg base CX0 N "_law_in_shops" ["_law_draws"] spShops)
    (GB : FnOk P w K mg base CX0 N fB fdB ["self", "other", "longest", "most"] (spBeside K CS n)) (hB : Meth K CS "beside" fB) (bB : Binds K fdB ["self", "other", "longest", "most"] dsB) (vB : Vals [.int 24, .int 400] dsB)
    (MR : Mk K CR fR) (mR : mg "Run" = some (.ref CR)) (bR : Binds K fdR ["self", "shop"] []) (GR : ∀ B, (∀ b o, base.get? b = some o → B.get? b = some o) → FnOk P w K mg B CX0 N fR fdR ["self", "shop"] (spRI K CR CS CT (spCome P w K mg B C CS CP CH CV (kN + 1) n)))
    (hO : Meth K CR "go" fO) (bO : Binds K fdO ["self", "k"] []) (GO : ∀ B, (∀ b o, base.get? b = some o → B.get? b = some o) → FnOk P w K mg B (L2.CX P w) N fO fdO ["self", "k"] (spGo P w K CR CT CP CW CC pS S Rel (spCome P w K mg B C CS CP CH CV (kN + 1) n)))
    (GT : MethOk P w K mg base CX0 N CR "outcome" ["self"] (spOutcome K CR CT CP)) (GC : MethOk P w K mg base (L2.CX P w) N CR "cell" ["self", "name"] (spCellOf K CR CT CP CN (fun T => T.cells))) (GV : MethOk P w K mg base CX0 N CR "is_over" ["self"] (spOver K CR CT CP Rel))
    (GN : ∀ B, (∀ b o, base.get? b = some o → B.get? b = some o) → FnOk P w K mg B (L2.CX P w) kN fN fdN ["_law_base", "_law_hand"] (spNum K C CS CH)) (mN : mg "_law_numbered" = some (.ref fN)) (kpN : PySem.W.keepIn K (.ref fN) = true) (bN : Binds K fdN ["_law_base", "_law_hand"] []) (HT : HTxt K C)
    (hx : PySem.W.exmOne K (.ref CH) (.ref CH) = some true) {fL fW : Addr} (kL : KDct K w pS "look" (.ref fL)) (sL : S fL = some (spStep K CT dLook)) (kW : KDct K w pS "swap" (.ref fW)) (sW : S fW = some (spStep K CT dSwap)) :
    FnOk P w K mg base CX0 (N + 2) f fd ["_law_script"] (spLaw K [(Pt, qLam)]) := by
  refine F.ok scLaw (fun vs H Q E h => ?_) (fun A outer s H vs Q E hr h => ?_)
  · obtain ⟨a, ns, rfl, _⟩ := h
    rfl
  · obtain ⟨a, ns, rfl, hns, few, hT, k⟩ := h
    have hr0 : Room N _ := hr.mono (by omega)
    have hu : ∀ p ∈ [(Pt, qLam)], p.1 = Pt → p.2 = qLam := fun p hp _ => by
      rw [List.mem_singleton.mp hp]
    obtain ⟨_, kb1⟩ := kb_cells FI
    obtain ⟨dsI, vI, bI⟩ := kb_none FI
    obtain ⟨tR, hRest, rR⟩ := law_rest (base := base) (A := A) (outer := outer) (s := s) (H0 := H) (E := E) (c := c) hr B XR GD GE GU GH MR mR bR GR hO bO GO GT GC GV hx kL sL kW sW
    obtain ⟨f1, d1, G1, m1, k1, b1⟩ := GS
    obtain ⟨f2, d2, G2, m2, k2, b2⟩ := GD
    obtain ⟨f3, d3, G3, m3, k3, b3⟩ := GK
    refine ⟨_, pss_cons (ps_set (i := 1) scLaw.nd rfl (.inl rfl) (pe_call G1 hr0 rfl m1 k1 b1 .nil pass0 (pa_cons (pv 0) (pa_cons pe_int pa_nil))))
      (pss_cons (ps_asg (pe_tup (pa_cons (pe_op op_mul pe_int (pe_call G2 hr0 rfl m2 k2 b2 .nil pass0 (pa_cons (pv 1) (pa_cons pe_int pa_nil)))) (pa_cons (pe_op op_add pe_int (pe_call G2 hr0 rfl m2 k2 b2 .nil pass0 (pa_cons (pv 1) (pa_cons pe_int pa_nil))))
          (pa_cons (pe_call G3 hr0 rfl m3 k3 b3 .nil pass0 (pa_cons (pv 1) (pa_cons (pe_lst (pa_cons pe_int (pa_cons pe_str (pa_cons pe_int (pa_cons pe_int pa_nil))))) pa_nil))) pa_nil))))
          (pg_tup (n := 3) rfl (pgs_cons (pg_name (i := 2) scLaw.nd rfl (Or.inr rfl)) (pgs_cons (pg_name (i := 3) scLaw.nd rfl (Or.inl rfl)) (pgs_cons (pg_name (i := 4) scLaw.nd rfl (Or.inl rfl)) pgs_nil)))))
      (pss_cons (ps_set (i := 5) scLaw.nd rfl (.inl rfl) (pe_cloV (T := [(Pt, qLam)]) TB rfl (List.mem_singleton.mpr rfl) hu (by exact fun y hy e => (NdefX.ndef_free (sc := defScope sLaw) (fr := []) (by decide +kernel) y hy e).elim (fun z => cell_has z) (fun z => absurd rfl (scLaw.nofree _ (PySem.mem_of_lookup z))))))
      (pss_cons (ps_set (i := 6) scLaw.nd rfl (.inl rfl) (pe_makeK (n := 1) MS GI hr rfl mS kb1 pass0 (pa_cons (pe_op op_rep (pe_lst (pa_cons (pv 5) pa_nil)) (pv 3)) pa_nil) (pk_cons (pe_disp (pps_cons pe_str (pv 4) pps_nil) (by rfl) (by rfl) (fun z => by cases z) (by decide)) pk_nil)))
      (pss_cons (ps_if (PW.pt (pw_and (pt_cmpR op_lt (pv 3) pe_int (nomark _)) (pw_and1 (pt_cmpR op_eq (pe_call G2 hr0 rfl m2 k2 b2 .nil pass0 (pa_cons (pv 1) (pa_cons pe_int pa_nil))) pe_int (nomark _)))))
        (pss_cons (ps_set (i := 7) scLaw.nd rfl (.inl rfl) (pe_make MS GI hr rfl mS bI vI pass0 (pa_cons (pe_op op_rep (pe_lst (pa_cons (pe_cloV (T := [(Pt, qLam)]) TB rfl (List.mem_singleton.mpr rfl) hu (by exact fun y hy e => (NdefX.ndef_free (sc := defScope sLaw) (fr := []) (by decide +kernel) y hy e).elim (fun z => cell_has z) (fun z => absurd rfl (scLaw.nofree _ (PySem.mem_of_lookup z))))) pa_nil)) (pe_op op_sub pe_int (pv 3))) pa_nil)))
        (pss_cons (ps_set (i := 6) scLaw.nd rfl (.inl rfl) (pe_meth (pv 6) XS.cl hB GB hr0 bB vB pass0 (pa_cons (pv 7) pa_nil)))
        (pss_one (ps_setLc (i := 8) (own := [("_law_k", 13)]) rfl scLaw.nd rfl rfl (by rfl) (pi_range2 (by rfl) B.range (pa_cons (pv 3) (pa_cons pe_int pa_nil))) (blkOk_by (N := NLaw) (sc := defScope sLaw) (by decide +kernel))
          (fun _ _ _ _ _ => pg_name (i := 13) scLaw.nd rfl (Or.inl rfl)) (fun _ _ _ _ _ => pts_nil) (te := tTup (tCons (tC (.str "told")) (tCons (tVar 13) tNil))) (fun _ _ _ _ _ => by exact pe_tup (pa_cons pe_str (pa_cons (pv 13) pa_nil)))))))
        (pss_one (ps_set (i := 8) scLaw.nd rfl (.inl rfl) (pe_lst pa_nil))))
      hRest)))), ?_⟩
    refine ⟨_, rfl, a, ns, 0, rfl, hns, few, fun p x0 y0 hp => ?_⟩
    have s1 : Same H (upd H p (.lst [.int x0, .int y0, .int 0])) := same_new hp
    have T1 : Tabs [(Pt, qLam)] (upd H p (.lst [.int x0, .int y0, .int 0])) := fun z hz => (hT z hz).ext s1
    have p1 : (upd H p (.lst [.int x0, .int y0, .int 0])) p = some (.lst [.int x0, .int y0, .int 0]) := upd_same
    generalize upd H p (.lst [.int x0, .int y0, .int 0]) = H1 at *
    refine ⟨_, rfl, p, _, _, _, 5, rfl, p1, by decide, by decide, fun r1 x1 y1 z1 r1a r1b => ?_⟩
    refine ⟨_, _, rfl, rfl, .inl ⟨by decide, by decide⟩, ?_⟩
    refine ⟨_, rfl, p, _, _, _, 4, rfl, upd_same, by decide, by decide, fun r2 x2 y2 z2 r2a r2b => ?_⟩
    refine ⟨_, _, rfl, rfl, ?_⟩
    rw [upd_upd]
    have T2 : Tabs [(Pt, qLam)] (upd H1 p (.lst [.int x2, .int y2, .int z2])) := tabs_put p1 T1
    have p2 : (upd H1 p (.lst [.int x2, .int y2, .int z2])) p = some (.lst [.int x2, .int y2, .int z2]) := upd_same
    generalize upd H1 p (.lst [.int x2, .int y2, .int z2]) = H2 at *
    refine ⟨_, rfl, small_sz (n := 4) (by decide), fun l hl => ?_⟩
    have lp : l ≠ p := fun e => by
      rw [e, p2] at hl
      cases hl
    refine ⟨p, l, _, _, _, _, rfl, same_new hl _ _ p2, SqL.of upd_same, by decide, by decide, fun a' b' c' => SqL.of ((upd_ne lp).trans upd_same), fun j start x3 y3 z3 hj => ?_⟩
    have fs : FlatA start := by
      match j, hj with
      | 0, hj => cases hj; exact .inl ⟨_, rfl⟩
      | 1, hj => cases hj; exact .inr ⟨_, rfl⟩
      | 2, hj => cases hj; exact .inl ⟨_, rfl⟩
      | 3, hj => cases hj; exact .inl ⟨_, rfl⟩
    have T3 : Tabs [(Pt, qLam)] (upd (upd H2 l (.lst [.int 0, .str "a", .int 10, .int 20])) p (.lst [.int x3, .int y3, .int z3])) := tabs_put (same_new hl _ _ p2) (fun z hz => (T2 z hz).ext (same_new hl))
    have p3 : (upd (upd H2 l (.lst [.int 0, .str "a", .int 10, .int 20])) p (.lst [.int x3, .int y3, .int z3])) p = some (.lst [.int x3, .int y3, .int z3]) := upd_same
    generalize upd (upd H2 l (.lst [.int 0, .str "a", .int 10, .int 20])) p (.lst [.int x3, .int y3, .int z3]) = H3 at *
    refine ⟨small_sz (n := 3) (by decide), fun tt htt => ?_⟩
    have s4 := same_new (o := .tup [.int (10 * r1), .int (1 + r2), start]) htt
    obtain ⟨m, hm, m1', m4⟩ : ∃ m : Nat, 1 + r2 = (m : Int) ∧ 1 ≤ m ∧ m ≤ 4 := ⟨(1 + r2).toNat, by omega, by omega, by omega⟩
    obtain ⟨b, hb⟩ : ∃ b, 10 * r1 = b := ⟨_, rfl⟩
    refine ⟨tt, _, rfl, SqT.of upd_same, rfl, .int b, [.int (m : Nat), start], by rw [← hb, ← hm], _, _, rfl, _, _, rfl, rfl, ?_⟩
    have T4 : Tabs [(Pt, qLam)] (upd H3 tt (.tup [.int (10 * r1), .int (1 + r2), start])) := fun z hz => (T3 z hz).ext s4
    have p4 := s4 _ _ p3
    generalize upd H3 tt (.tup [.int (10 * r1), .int (1 + r2), start]) = H4 at *
    refine ⟨T4, fun g1 c1 H5 e5 T5 n5 cc => ?_⟩
    have p5 : H5 p = some (.lst [.int x3, .int y3, .int z3]) := e5 _ _ p4 fun _ z => (nomatch z)
    generalize hO : CloV g1 c1 _ _ _ _ _ = O1
    have s6 : Same H5 (upd H5 g1 O1) := same_new n5
    have o6 : (upd H5 g1 O1) g1 = some O1 := upd_same
    have c6 := s6 _ _ cc
    have p6 := s6 _ _ p5
    have T6 : Tabs [(Pt, qLam)] (upd H5 g1 O1) := fun z hz => (T5 z hz).ext s6
    clear cc p5 e5 T5 p4 T4 s4 p3 T3 lp p2 T2 p1 T1 s1
    generalize upd H5 g1 O1 = H6 at *
    have one : 1 ≤ sizeLine := small_sz (n := 1) (by decide)
    refine ⟨_, rfl, one, fun l1 hl1 => ⟨_, rfl, l1, (m : Nat), [.ref g1], rfl, rfl, upd_same, by omega, by omega, ?_, fun l2 hl2 d hd => ⟨_, rfl, upd_same, [(Sum.inr "x", start)], rfl, (by show 1 ≤ 15; decide), rfl, rfl, fun x1 dx1 a1 a2 a3 => ?_⟩⟩⟩
    · exact Nat.le_trans (by rw [Int.toNat_natCast]; show 1 * m ≤ 4; omega) (small_sz (n := 4) (by decide))
    have sl := ((same_new (o := .lst [.ref g1]) hl1).trans (same_new (o := .lst (List.replicate ((m : Nat) : Int).toNat [.ref g1]).flatten) hl2)).trans (same2 (o := .dK []) (o2 := .dK [(Sum.inr ("x" : Str), start)]) hd)
    have ml : (upd (upd (upd (upd H6 l1 (.lst [.ref g1])) l2 (.lst (List.replicate ((m : Nat) : Int).toNat [.ref g1]).flatten)) d (.dK [])) d (.dK [(Sum.inr ("x" : Str), start)])) l2 = some (.lst (List.replicate m (.ref g1))) := by
      exact (same2 hd _ _ upd_same).trans (by rw [show ((m : Nat) : Int).toNat = m from Int.toNat_natCast m, rep_eq])
    refine mk_shop (SI := ⟨List.replicate m (.ref g1), [(Sum.inr "x", start)], ["x"], [], [], [], 24, 400⟩) ⟨⟨l2, rfl, .inl (SqL.of ml)⟩, by show 1 ≤ (List.replicate m (V.ref g1)).length; rw [List.length_replicate]; exact m1', by show (List.replicate m (V.ref g1)).length ≤ 4; rw [List.length_replicate]; exact m4, .inr ⟨d, rfl, .inl upd_same⟩, rfl, ⟨t0, rfl, .inr (ht0 _)⟩, .inl ⟨rfl, rfl⟩, rfl, List.nodup_cons.mpr ⟨List.not_mem_nil, List.nodup_nil⟩, fun z hz => ?_, (by show 1 ≤ 64; decide), fun kv hkv H' tk => ?_, fun kv hkv => (nomatch hkv), ⟨by show (1 : Int) ≤ 24; decide, by show (24 : Int) ≤ 40; decide⟩, ⟨by show (1 : Int) ≤ 400; decide, by show (400 : Int) ≤ 2000; decide⟩⟩ a1 a2 a3 fun wt cd lt bd H7 s7 A7 => ⟨rfl, ?_⟩
    · rw [List.mem_singleton.mp (show z ∈ [("x" : Str)] from hz)]
      decide +kernel
    · rw [List.mem_singleton.mp hkv]
      exact fs.vn
    have s67 := sl.trans s7
    have o7 := s67 _ _ o6
    have c7 := s67 _ _ c6
    have p7 := s67 _ _ p6
    have T7 : Tabs [(Pt, qLam)] H7 := fun z hz => (T6 z hz).ext s67
    clear ml sl s7 o6 c6 p6 T6
    have inj : ∀ (x z : Str) (c' : Addr), (lawX P w K mg base f c A outer s H E).env.cells.lookup x = some c' → (lawX P w K mg base f c A outer s H E).env.cells.lookup z = some c' → x = z := fun x z c' h1 h2 => by
      have one : ∀ y : Str, (lawX P w K mg base f c A outer s H E).env.cells.lookup y = some c' → y = "_law_base" := fun y h => by
        rw [law_cells] at h
        exact congrArg Prod.fst (List.mem_singleton.mp (PySem.mem_of_lookup h))
      rw [one x h1, one z h2]
    have wk1 : ∀ (Hz : Hp) (L : List Addr) (σ : L2.St) (B : Heap), σ[2]? = some (some (.int b)) → Known (lawX P w K mg base f c A outer s H E) σ Hz L B → Hz g1 = some O1 → Hz c1 = some (CodeO c1 qLam) → g1 ∈ L → c1 ∈ L →
        ∀ (S0 : SS) (i : Nat), i < m → ("x" : Str) ∈ S0.cellN → WorkOk P w K mg B C CS CH (kN + 1) n S0 g1 i (AdH m i) (Bh K b m i) := fun Hz L σ B hσ kb h1 h2 i1 i2 S0 i hi hx0 => by
      refine (work_num (cloAt_of kb (h1.trans (congrArg some hO.symm)) h2 i1 i2 rfl rfl rfl (by decide +kernel) rfl (fun y hy e => (NdefX.ndef_free (sc := defScope sLaw) (fr := []) (by decide +kernel) y hy e).elim (fun z => cell_has z) (fun z => absurd rfl (scLaw.nofree _ (PySem.mem_of_lookup z)))) inj (fun i' x v e1 e2 => ?_) rfl (fun _ _ _ => rfl)) rfl rfl rfl rfl (GN B kb.old) mN kpN bN hx0 (by omega)).conv (fun ans h => h.1 hi) (fun _ _ _ _ _ h => .inl ⟨hi, h⟩)
      match i', e1, e2 with
      | 0, e1, e2 =>
        cases e1
        cases e2
        exact ⟨rfl, 2, rfl, hσ, rfl⟩
    have ex1 : ∀ {Hz : Hp}, Hz g1 = some O1 → ∃ φ, Hz g1 = some (.ext φ) := fun {Hz} h => ⟨_, h.trans (congrArg some hO.symm)⟩
    have fin0 : ∀ (Hz : Hp), LK H7 Hz → (∃ x y z : Int, Hz p = some (.lst [.int x, .int y, .int z])) → ∀ tl, Hz tl = none →
        LawF P w K mg C CS CH (kN + 1) n (lawX P w K mg base f c A outer s H E) b m m start p x1 tl (SIn.ss ⟨List.replicate m (.ref g1), [(Sum.inr "x", start)], ["x"], [], [], [], 24, 400⟩ dx1 wt cd lt bd) [] [g1, c1] (upd Hz tl (.lst [])) := fun Hz lk ⟨x, y, z, pz⟩ tl htl => by
      have se := same_new (o := .lst []) htl
      have oz : (upd Hz tl (.lst [])) g1 = some O1 := se _ _ (lk _ _ o7 (by rw [← hO]; exact fun _ z => (nomatch z)))
      have cz : (upd Hz tl (.lst [])) c1 = some (CodeO c1 qLam) := se _ _ (lk _ _ c7 fun _ z => (nomatch z))
      refine ⟨⟨x, y, z, se _ _ pz⟩, (lk.shop A7).same se, ?_, rfl, rfl, rfl, rfl, m1', Nat.le_refl _, m4, fs, upd_same, ?_, (Nat.sub_self m).symm, fun i t h => (nomatch h), fun a ha => ?_, fun σ B hσ kb i hi => ⟨g1, ?_, wk1 _ _ σ B hσ kb oz cz (List.mem_cons_self ..) (List.mem_cons_of_mem _ (List.mem_cons_self ..)) _ i hi (List.mem_cons_self ..)⟩⟩
      · show (((List.replicate m (V.ref g1)).length : Nat) : Int) = (m : Int)
        rw [List.length_replicate]
      · intro e
        rw [e, pz] at htl
        cases htl
      · rcases List.mem_cons.mp ha with rfl | ha
        · exact ex1 oz
        · rw [List.mem_singleton.mp ha]
          exact ⟨_, cz⟩
      · show (List.replicate m (V.ref g1))[i]? = _
        rw [List.getElem?_replicate, if_pos hi]
    refine ⟨_, rfl, _, _, rfl, rfl, _, rfl, ite2 (fun cm => ?_) (fun cm => ?_)⟩
    · refine ⟨_, rfl, p, _, _, _, 2, rfl, p7, by decide, by decide, fun r x8 y8 z8 r0 r1 => ⟨rfl, _, rfl, ite2 (fun c2 => ?_) (fun c2 => ?_)⟩⟩
      · have m3 : m < 4 := by
          have := of_decide_eq_true cm
          omega
        have lk8 : LK H7 (upd H7 p (.lst [.int x8, .int y8, .int z8])) := LK.put p7
        have T8 : Tabs [(Pt, qLam)] (upd H7 p (.lst [.int x8, .int y8, .int z8])) := tabs_put p7 T7
        have o8 := lk8 _ _ o7 (by rw [← hO]; exact fun _ z => (nomatch z))
        have c8 := lk8 _ _ c7 fun _ z => (nomatch z)
        have p8 : (upd H7 p (.lst [.int x8, .int y8, .int z8])) p = some (.lst [.int x8, .int y8, .int z8]) := upd_same
        have A8 := lk8.shop A7
        clear fin0 lk8
        generalize upd H7 p (.lst [.int x8, .int y8, .int z8]) = H8 at *
        refine ⟨T8, fun g2 c2 H9 e9 T9 n9 cc9 => ?_⟩
        generalize hO2 : CloV g2 c2 _ _ _ _ _ = O2
        have nx9 : ∀ b o, H8 b = some o → (∀ ps, o ≠ .tbl ps) → (upd H9 g2 O2) b = some o := fun b o e n => same_new n9 _ _ (e9 b o e n)
        have o10 := nx9 _ _ o8 (by rw [← hO]; exact fun _ z => (nomatch z))
        have c10 := nx9 _ _ c8 fun _ z => (nomatch z)
        have p10 := nx9 _ _ p8 fun _ z => (nomatch z)
        have A10 : ShopAt K CS (upd H9 g2 O2) x1 _ := ⟨nx9 _ _ A8.ob fun _ z => (nomatch z), seqT_extN2 nx9 A8.w, nx9 _ _ A8.c fun _ z => (nomatch z), A8.cn, seqT_extN2 nx9 A8.l, nx9 _ _ A8.b fun _ z => (nomatch z), A8.bn⟩
        have q10 : (upd H9 g2 O2) g2 = some O2 := upd_same
        have d10 := same_new (o := O2) n9 _ _ cc9
        clear nx9 T9 cc9 e9 A8 p8 c8 o8 T8 A7 T7 p7 c7 o7
        generalize upd H9 g2 O2 = H10 at *
        obtain ⟨k2, ek⟩ : ∃ k2 : Nat, (4 - (m : Int)).toNat = k2 := ⟨_, rfl⟩
        have ek2 : m + k2 = 4 := by omega
        refine ⟨one, fun l3 hl3 => ⟨_, rfl, _, _, rfl, rfl, l3, 4 - (m : Int), [.ref g2], rfl, rfl, upd_same, by omega, by omega, ?_, fun l4 hl4 x2 dx2 a1 a2 a3 => ?_⟩⟩
        · exact Nat.le_trans (by rw [ek]; show 1 * k2 ≤ 4; omega) (small_sz (n := 4) (by decide))
        have sl := (same_new (o := .lst [.ref g2]) hl3).trans (same_new (o := .lst (List.replicate (4 - (m : Int)).toNat [.ref g2]).flatten) hl4)
        have ml : (upd (upd H10 l3 (.lst [.ref g2])) l4 (.lst (List.replicate (4 - (m : Int)).toNat [.ref g2]).flatten)) l4 = some (.lst (List.replicate k2 (.ref g2))) := by
          rw [upd_same, ek, rep_eq]
        refine mk_shop (SI := ⟨List.replicate k2 (.ref g2), [], [], [], [], [], 24, 400⟩) ⟨⟨l4, rfl, .inl (SqL.of ml)⟩, by show 1 ≤ (List.replicate k2 (V.ref g2)).length; rw [List.length_replicate]; omega, by show (List.replicate k2 (V.ref g2)).length ≤ 4; rw [List.length_replicate]; omega, .inl ⟨rfl, rfl⟩, rfl, ⟨t0, rfl, .inr (ht0 _)⟩, .inl ⟨rfl, rfl⟩, rfl, List.nodup_nil, fun z hz => (nomatch hz), (by show 0 ≤ 64; decide), fun kv hkv => (nomatch hkv), fun kv hkv => (nomatch hkv), ⟨by show (1 : Int) ≤ 24; decide, by show (24 : Int) ≤ 40; decide⟩, ⟨by show (1 : Int) ≤ 400; decide, by show (400 : Int) ≤ 2000; decide⟩⟩ a1 a2 a3 fun wt2 cd2 lt2 bd2 H11 s11 A11 => ⟨rfl, ?_⟩
        have s1011 := sl.trans s11
        have B11 := A10.same s1011
        refine ⟨_, rfl, x1, dx1, _, rfl, B11.ob, sF_no (by decide +kernel) (by decide +kernel) (by decide +kernel) (by decide +kernel) (by decide +kernel) (by decide +kernel) (by decide +kernel), _, rfl, ?_⟩
        refine ⟨x1, x2, _, _, 24, 400, rfl, B11, A11, Nat.le_refl _, Nat.zero_le _, Nat.zero_le _, Nat.zero_le _, .inr rfl, .inl rfl, ?_, ?_, List.nodup_cons.mpr ⟨List.not_mem_nil, List.nodup_nil⟩, fun z hz => ?_, (by show 1 < 60; decide), fun kv hkv H' tk => ?_, fun kv hkv => (nomatch hkv), ⟨by decide, by decide⟩, ⟨by decide, by decide⟩, fun sh3 dx3 wt3 cd3 lt3 bd3 H12 hsh3 s12 A12 => ?_⟩
        · show 1 ≤ (List.replicate m (V.ref g1) ++ List.replicate k2 (V.ref g2)).length
          rw [List.length_append, List.length_replicate, List.length_replicate]
          omega
        · show (List.replicate m (V.ref g1) ++ List.replicate k2 (V.ref g2)).length ≤ 4
          rw [List.length_append, List.length_replicate, List.length_replicate]
          omega
        · rw [List.mem_singleton.mp (show z ∈ [("x" : Str)] from hz)]
          decide +kernel
        · rw [List.mem_singleton.mp (show kv ∈ [(Sum.inr ("x" : Str), start)] from hkv)]
          exact fs.vn
        have s13 := s1011.trans s12
        have o12 := s13 _ _ o10
        have c12 := s13 _ _ c10
        have p12 := s13 _ _ p10
        have q12 := s13 _ _ q10
        have d12 := s13 _ _ d10
        clear s13 o10 c10 p10 q10 d10 A10 B11 A11 s1011 sl ml s11 s12
        refine ⟨_, rfl, (m : Nat), 4, rfl, ⟨by omega, by omega, by omega, by omega⟩, fun D hD => ?_⟩
        refine lc_range (lo := (m : Nat)) (n := (4 - (m : Int)).toNat) (fun i H' => Same H12 H' ∧ ∃ ts : List Addr, ts.length = i ∧ H' D = some (.lst (ts.map V.ref)) ∧ ∀ (j : Nat) (t : Addr), ts[j]? = some t → H' t = some (.tup [.str "told", .int ((m + j : Nat) : Int)])) ⟨same_new hD, [], rfl, upd_same, fun j t h => (nomatch h)⟩ (fun i H' hi z => ?_) (fun H' z => ?_)
        · obtain ⟨sm, ts, lt, hd, tat⟩ := z
          refine ⟨rfl, ?_⟩
          unfold tYes
          dsimp only
          refine iteT ?_
          refine ⟨_, rfl, two_sz, fun t ht => ?_⟩
          have st := same_new (o := .tup [.str "told", .int ((m : Int) + (i : Nat))]) ht
          refine ⟨_, st _ _ hd, ?_, fun b o e => ?_, ts ++ [t], by rw [List.length_append, lt]; rfl, by rw [List.map_append]; exact upd_same, fun j' t' h => ?_⟩
          · rw [List.length_map, lt]
            exact Nat.lt_of_lt_of_le (by omega : i < 5) (small_sz (n := 5) (by decide))
          · rw [upd_ne (ne_of_none e hD)]
            exact st _ _ (sm _ _ e)
          · have key : ∀ o', (upd H' t (.tup [.str "told", .int ((m : Int) + (i : Nat))])) t' = some o' → (∀ xs, o' ≠ .lst xs) → (upd (upd H' t (.tup [.str "told", .int ((m : Int) + (i : Nat))])) D (.lst (ts.map V.ref ++ [.ref t]))) t' = some o' := fun o' e n => (upd_ne (fun z => by rw [z, st _ _ hd] at e; exact n _ (Option.some.inj e).symm)).trans e
            by_cases c : j' < ts.length
            · rw [List.getElem?_append_left c] at h
              exact key _ (st _ _ (tat j' t' h)) fun _ z => (nomatch z)
            · have z := (List.getElem?_eq_some_iff.mp h).1
              rw [List.length_append] at z
              have ej : j' = ts.length := by
                have : j' < ts.length + 1 := z
                omega
              rw [ej, List.getElem?_append_right (Nat.le_refl _), Nat.sub_self] at h
              obtain rfl := (Option.some.inj (show some t = some t' from h))
              rw [ej, lt]
              exact key _ upd_same fun _ z => (nomatch z)
        · obtain ⟨sm, ts, lt, hd, tat⟩ := z
          have oz := sm _ _ o12
          have cz := sm _ _ c12
          have qz := sm _ _ q12
          have dz := sm _ _ d12
          refine rR _ Q a p sh3 D g1 b m 4 start _ ts [g1, c1, g2, c2] _ _ _ _ _ _ _ _ _ _ _ ⟨⟨_, _, _, sm _ _ p12⟩, A12.same sm, ?_, rfl, rfl, rfl, rfl, m1', m4, Nat.le_refl _, fs, hd, ?_, by rw [lt]; omega, tat, fun a' ha => ?_, fun σ B hσ kb i hi => ?_⟩ k
          · show (((List.replicate m (V.ref g1) ++ List.replicate k2 (V.ref g2)).length : Nat) : Int) = ((4 : Nat) : Int)
            rw [List.length_append, List.length_replicate, List.length_replicate, ek2]
          · intro e
            rw [e, p12] at hD
            cases hD
          · rcases List.mem_cons.mp ha with rfl | ha
            · exact ex1 oz
            rcases List.mem_cons.mp ha with rfl | ha
            · exact ⟨_, cz⟩
            rcases List.mem_cons.mp ha with rfl | ha
            · exact ⟨_, qz.trans (congrArg some hO2.symm)⟩
            rw [List.mem_singleton.mp ha]
            exact ⟨_, dz⟩
          · by_cases c : i < m
            · refine ⟨g1, ?_, wk1 _ _ σ B hσ kb oz cz (List.mem_cons_self ..) (List.mem_cons_of_mem _ (List.mem_cons_self ..)) _ i c (List.mem_cons_self ..)⟩
              show (List.replicate m (V.ref g1) ++ List.replicate k2 (V.ref g2))[i]? = _
              rw [List.getElem?_append_left (by rw [List.length_replicate]; exact c), List.getElem?_replicate, if_pos c]
            · refine ⟨g2, ?_, (work_me (cloAt_of (xs := []) (vs := []) kb (qz.trans (congrArg some hO2.symm)) dz (List.mem_cons_of_mem _ (List.mem_cons_of_mem _ (List.mem_cons_self ..))) (List.mem_cons_of_mem _ (List.mem_cons_of_mem _ (List.mem_cons_of_mem _ (List.mem_cons_self ..)))) rfl rfl rfl (by decide +kernel) rfl (fun y hy e => (NdefX.ndef_free (sc := defScope sLaw) (fr := []) (by decide +kernel) y hy e).elim (fun z => cell_has z) (fun z => absurd rfl (scLaw.nofree _ (PySem.mem_of_lookup z)))) inj (fun i' x v e1 e2 => (nomatch e1)) rfl (fun _ _ _ => rfl)) rfl rfl HT).conv (fun ans h => h.2 (by omega)) (fun _ _ _ _ _ h => .inr ⟨by omega, h⟩)⟩
              show (List.replicate m (V.ref g1) ++ List.replicate k2 (V.ref g2))[i]? = _
              rw [List.getElem?_append_right (by rw [List.length_replicate]; omega), List.length_replicate, List.getElem?_replicate, if_pos (by omega)]
      · refine ⟨Nat.zero_le _, fun tl htl => ?_⟩
        exact rR _ Q a p x1 tl g1 b m m start _ [] [g1, c1] _ _ _ _ _ _ _ _ _ _ _ (fin0 _ (LK.put p7) ⟨_, _, _, upd_same⟩ tl htl) k
    · refine ⟨Nat.zero_le _, fun tl htl => ?_⟩
      exact rR _ Q a p x1 tl g1 b m m start _ [] [g1, c1] _ _ _ _ _ _ _ _ _ _ _ (fin0 _ (LK.refl _) ⟨_, _, _, p7⟩ tl htl) k
end
end TW
namespace TWHead
open PySem PySem.Spec PySem.W PySem.Calls PyProof.Rows L2 TW
theorem toFun {K : Frag} {x qual : PySem.Str} {st : Stmt} {kws : List (PySem.Str × V)} {f : Addr} {fd : FuncData} (F : FunD K x qual (defArgs st) (defBody st) (defScope st) [] kws f fd) : Fun K x qual st f fd := by
  obtain ⟨⟨oc, od, dV, kV, doc, pm, an, cdv, ct, osl, e, lk, hcd, hD, hK⟩, kp⟩ := F
  rcases hD with ⟨_, rfl⟩ | ⟨z, _⟩
  · exact ⟨⟨oc, od, kV, doc, pm, an, cdv, ct, osl, e, lk, hcd⟩, kp⟩
  · exact absurd rfl z
theorem fun_two {K : Frag} {qual f : PySem.Str} {st : Stmt} {fI : Addr} {fd : FuncData} (F : Fun K "__init__" qual st fI fd)
    (bp : ∀ (kV dc pm : Value) (an : Option Addr) (cd ct u v : Value), bindArgs (fnOf "__init__" qual (defArgs st) (defBody st) (defScope st) .none kV dc pm an cd ct) ⟨[u, v], []⟩ = pure [(("self" : PySem.Str), u), (f, v)])
    (bk : ∀ (kV dc pm : Value) (an : Option Addr) (cd ct u v : Value), bindArgs (fnOf "__init__" qual (defArgs st) (defBody st) (defScope st) .none kV dc pm an cd ct) ⟨[u], [(f, v)]⟩ = pure [(("self" : PySem.Str), u), (f, v)]) :
    (∀ (s : Shared) (u v : Value), BindsTo s fd ⟨[u, v], []⟩ [("self", u), (f, v)]) ∧ ∀ (s : Shared) (u v : Value), BindsTo s fd ⟨[u], [(f, v)]⟩ [("self", u), (f, v)] := by
  obtain ⟨oc, od, kV, doc, pm, an, cdv, ct, osl, rfl, lk, hcd⟩ := F.ex
  exact ⟨fun s u v => .of_eq (bp kV doc pm an cdv ct u v), fun s u v => .of_eq (bk kV doc pm an cdv ct u v)⟩
theorem binds_of {K : Frag} {x qual : PySem.Str} {st : Stmt} {f : Addr} {fd : FuncData} {y : PySem.Str} (F : Fun K x qual st f fd) (b : ∀ (kV dc pm : Value) (an : Option Addr) (cd ct u : Value), bindArgs (fnOf x qual (defArgs st) (defBody st) (defScope st) .none kV dc pm an cd ct) ⟨[u], []⟩ = pure [(y, u)]) :
    ∀ (s : Shared) (u : Value), BindsTo s fd ⟨[u], []⟩ [(y, u)] := by
  obtain ⟨oc, od, kV, doc, pm, an, cdv, ct, osl, rfl, lk, hcd⟩ := F.ex
  exact fun s u => .of_eq (b kV doc pm an cdv ct u)
/-- the law's def with its code object -/
theorem toFunC {K : Frag} {x qual : PySem.Str} {st : Stmt} {p : PySem.Str × Option PySem.Str} {fd : FuncData} (F : Fun K x qual st (He.fAd K p) fd) : FunC K x qual st (He.fAd K p) fd (He.codeOf K p) := by
  obtain ⟨oc, od, kV, doc, pm, an, cdv, ct, osl, rfl, lk, hcd⟩ := F.ex
  obtain ⟨c, rfl⟩ := He.codeIn_ref hcd
  have e := He.codeOf_eq lk (c := c) rfl
  rw [e]
  exact ⟨⟨oc, od, kV, doc, pm, an, ct, osl, rfl, lk, hcd⟩, F.kp⟩
theorem fnAt_K {K : Frag} {x qual : PySem.Str} {st : Stmt} {f : Addr} {fd : FuncData} {base : Heap} (F : Fun K x qual st f fd) (X : K.In base) : FnAt f base := by
  obtain ⟨oc, od, kV, doc, pm, an, cdv, ct, osl, rfl, lk, hcd⟩ := F.ex
  exact ⟨_, _, _, _, X _ _ lk⟩
theorem cx_of {P : Program} {w : World} {K : Frag} {mg : PySem.Str → Option Value} {base : Heap} {k : Nat} {f : Addr} {fd : FuncData} {ps : List PySem.Str} {sp : Sp} (F : FnOk P w K mg base CX0 k f fd ps sp) : FnOk P w K mg base (fun _ _ _ _ _ _ => False) k f fd ps sp := F
theorem kb_all {K : Frag} {t0 f : Addr} {fd : FuncData} (F : FunSI K t0 f fd) : KBn K fd psSI 2 ["cells", "locks", "belts", "longest", "most"] (fun us ws => us ++ ws) (fun vs zs => vs ++ zs) := by
  obtain ⟨mv, h⟩ := F.kbinds0 (ps := psSI) 2 ["cells", "locks", "belts", "longest", "most"] [] (fun us mv ws => us ++ ws) (by unfold shopKw; exact List.cons_ne_nil _ _) (fun q h => (nomatch h)) (fun a b c => a.append c)
    fun D doc pm an cdv ct us mv ws h1 h2 h3 => match us, mv, ws, h1, h2, h3 with
      | [_, _], [], [_, _, _, _, _], _, _, _ => rfl
  exact h
abbrev kwBes : List (PySem.Str × V) := [("longest", .int 24), ("most", .int 400)]
theorem kb_bes {K : Frag} {f : Addr} {fd : FuncData} (F : FunD K "beside" "Shop.beside" (defArgs s_beside) (defBody s_beside) (defScope s_beside) [] kwBes f fd) : ∃ ds, Vals [.int 24, .int 400] ds ∧ L2.Binds K fd ["self", "other", "longest", "most"] ds :=
  F.binds0 2 (List.cons_ne_nil _ _) rfl fun D doc pm an cdv ct us ks h1 h2 => match us, ks, h1, h2 with
    | [_, _], [_, _], _, _ => ⟨_, _, _, _, _, _, rfl, rfl, _, _, _, _, _, _, rfl, rfl, rfl⟩
theorem at_end (w : World) (mg : PySem.Str → Option Value) (fa' : Addr) (h : Heap) (K : Frag) (KX : K.In h) (c : He.SaysX fa fn ts tf ex w h K) (G : h.Ns mainGlobals mg) (hmg : mg "law" = some (.ref fa')) :
    LamX.LawAtS PySem.Challenge.rw_turnways_k18_numbers_of_hands w K CX0 18 63 "_law_script" mg fa' h := by
  have cd := c.t.d
  have g_is_whole : mg "is_whole" = some (.ref (He.ga K "is_whole")) := He.glo_ok KX G (cd.fact 18 (f := .glo "is_whole") rfl)
  have g_is_word : mg "is_word" = some (.ref (He.ga K "is_word")) := He.glo_ok KX G (cd.fact 19 (f := .glo "is_word") rfl)
  have g_is_value : mg "is_value" = some (.ref (He.ga K "is_value")) := He.glo_ok KX G (cd.fact 20 (f := .glo "is_value") rfl)
  have g_same : mg "same" = some (.ref (He.ga K "same")) := He.glo_ok KX G (cd.fact 21 (f := .glo "same") rfl)
  have g_check_value : mg "check_value" = some (.ref (He.ga K "check_value")) := He.glo_ok KX G (cd.fact 22 (f := .glo "check_value") rfl)
  have g_check_thing : mg "check_thing" = some (.ref (He.ga K "check_thing")) := He.glo_ok KX G (cd.fact 23 (f := .glo "check_thing") rfl)
  have g_check_going : mg "check_going" = some (.ref (He.ga K "check_going")) := He.glo_ok KX G (cd.fact 24 (f := .glo "check_going") rfl)
  have g_check_call : mg "check_call" = some (.ref (He.ga K "check_call")) := He.glo_ok KX G (cd.fact 25 (f := .glo "check_call") rfl)
  have g_halt : mg "halt" = some (.ref (He.ga K "halt")) := He.glo_ok KX G (cd.fact 26 (f := .glo "halt") rfl)
  have g_ask : mg "ask" = some (.ref (He.ga K "ask")) := He.glo_ok KX G (cd.fact 27 (f := .glo "ask") rfl)
  have g_Hand : mg "Hand" = some (.ref (He.ga K "Hand")) := He.glo_ok KX G (cd.fact 28 (f := .glo "Hand") rfl)
  have g_Place : mg "Place" = some (.ref (He.ga K "Place")) := He.glo_ok KX G (cd.fact 29 (f := .glo "Place") rfl)
  have g_returned : mg "returned" = some (.ref (He.ga K "returned")) := He.glo_ok KX G (cd.fact 30 (f := .glo "returned") rfl)
  have g_come : mg "come" = some (.ref (He.ga K "come")) := He.glo_ok KX G (cd.fact 31 (f := .glo "come") rfl)
  have g_Things : mg "Things" = some (.ref (He.ga K "Things")) := He.glo_ok KX G (cd.fact 32 (f := .glo "Things") rfl)
  have g_first_things : mg "first_things" = some (.ref (He.ga K "first_things")) := He.glo_ok KX G (cd.fact 33 (f := .glo "first_things") rfl)
  have g_things_again : mg "things_again" = some (.ref (He.ga K "things_again")) := He.glo_ok KX G (cd.fact 34 (f := .glo "things_again") rfl)
  have g_has_room : mg "has_room" = some (.ref (He.ga K "has_room")) := He.glo_ok KX G (cd.fact 35 (f := .glo "has_room") rfl)
  have g_need_not_wait : mg "need_not_wait" = some (.ref (He.ga K "need_not_wait")) := He.glo_ok KX G (cd.fact 36 (f := .glo "need_not_wait") rfl)
  have g_do_look : mg "do_look" = some (.ref (He.ga K "do_look")) := He.glo_ok KX G (cd.fact 37 (f := .glo "do_look") rfl)
  have g_do_swap : mg "do_swap" = some (.ref (He.ga K "do_swap")) := He.glo_ok KX G (cd.fact 38 (f := .glo "do_swap") rfl)
  have g_do_step : mg "do_step" = some (.ref (He.ga K "do_step")) := He.glo_ok KX G (cd.fact 39 (f := .glo "do_step") rfl)
  have g_place_of : mg "place_of" = some (.ref (He.ga K "place_of")) := He.glo_ok KX G (cd.fact 40 (f := .glo "place_of") rfl)
  have g_can_go : mg "can_go" = some (.ref (He.ga K "can_go")) := He.glo_ok KX G (cd.fact 41 (f := .glo "can_go") rfl)
  have g_in_pairs : mg "in_pairs" = some (.ref (He.ga K "in_pairs")) := He.glo_ok KX G (cd.fact 42 (f := .glo "in_pairs") rfl)
  have g_Run : mg "Run" = some (.ref (He.ga K "Run")) := He.glo_ok KX G (cd.fact 43 (f := .glo "Run") rfl)
  have g_check_works : mg "check_works" = some (.ref (He.ga K "check_works")) := He.glo_ok KX G (cd.fact 44 (f := .glo "check_works") rfl)
  have g_check_names : mg "check_names" = some (.ref (He.ga K "check_names")) := He.glo_ok KX G (cd.fact 45 (f := .glo "check_names") rfl)
  have g_check_size : mg "check_size" = some (.ref (He.ga K "check_size")) := He.glo_ok KX G (cd.fact 46 (f := .glo "check_size") rfl)
  have g_check_limit : mg "check_limit" = some (.ref (He.ga K "check_limit")) := He.glo_ok KX G (cd.fact 47 (f := .glo "check_limit") rfl)
  have g_copied : mg "copied" = some (.ref (He.ga K "copied")) := He.glo_ok KX G (cd.fact 48 (f := .glo "copied") rfl)
  have g_Shop : mg "Shop" = some (.ref (He.ga K "Shop")) := He.glo_ok KX G (cd.fact 49 (f := .glo "Shop") rfl)
  have g__law_source : mg "_law_source" = some (.ref (He.ga K "_law_source")) := He.glo_ok KX G (cd.fact 50 (f := .glo "_law_source") rfl)
  have g__law_draw : mg "_law_draw" = some (.ref (He.ga K "_law_draw")) := He.glo_ok KX G (cd.fact 51 (f := .glo "_law_draw") rfl)
  have g__law_pick : mg "_law_pick" = some (.ref (He.ga K "_law_pick")) := He.glo_ok KX G (cd.fact 52 (f := .glo "_law_pick") rfl)
  have g__law_same : mg "_law_same" = some (.ref (He.ga K "_law_same")) := He.glo_ok KX G (cd.fact 53 (f := .glo "_law_same") rfl)
  have g__law_numbered : mg "_law_numbered" = some (.ref (He.ga K "_law_numbered")) := He.glo_ok KX G (cd.fact 54 (f := .glo "_law_numbered") rfl)
  have g__law_due : mg "_law_due" = some (.ref (He.ga K "_law_due")) := He.glo_ok KX G (cd.fact 55 (f := .glo "_law_due") rfl)
  have g__law_trying : mg "_law_trying" = some (.ref (He.ga K "_law_trying")) := He.glo_ok KX G (cd.fact 56 (f := .glo "_law_trying") rfl)
  have g__law_in_shops : mg "_law_in_shops" = some (.ref (He.ga K "_law_in_shops")) := He.glo_ok KX G (cd.fact 57 (f := .glo "_law_in_shops") rfl)
  have g_law : mg "law" = some (.ref (He.ga K "law")) := He.glo_ok KX G (cd.fact 58 (f := .glo "law") rfl)
  have g_BadWorks : mg "BadWorks" = some (.ref (He.ga K "BadWorks")) := He.glo_ok KX G (cd.fact 59 (f := .glo "BadWorks") rfl)
  have g_BadValue : mg "BadValue" = some (.ref (He.ga K "BadValue")) := He.glo_ok KX G (cd.fact 60 (f := .glo "BadValue") rfl)
  have g_BadSize : mg "BadSize" = some (.ref (He.ga K "BadSize")) := He.glo_ok KX G (cd.fact 61 (f := .glo "BadSize") rfl)
  have g_BadLimit : mg "BadLimit" = some (.ref (He.ga K "BadLimit")) := He.glo_ok KX G (cd.fact 62 (f := .glo "BadLimit") rfl)
  have g_NoThing : mg "NoThing" = some (.ref (He.ga K "NoThing")) := He.glo_ok KX G (cd.fact 63 (f := .glo "NoThing") rfl)
  have g_NoWork : mg "NoWork" = some (.ref (He.ga K "NoWork")) := He.glo_ok KX G (cd.fact 64 (f := .glo "NoWork") rfl)
  have g_CanNot : mg "CanNot" = some (.ref (He.ga K "CanNot")) := He.glo_ok KX G (cd.fact 65 (f := .glo "CanNot") rfl)
  have g_Held : mg "Held" = some (.ref (He.ga K "Held")) := He.glo_ok KX G (cd.fact 66 (f := .glo "Held") rfl)
  have g_STEPS : mg "STEPS" = some (.ref (He.ga K "STEPS")) := He.glo_ok KX G (cd.fact 67 (f := .glo "STEPS") rfl)
  have e := hmg.symm.trans g_law
  cases e
  have B : Blt mg := ⟨He.free_ok KX G (cd.fact 0 (f := .free "len") rfl), He.free_ok KX G (cd.fact 1 (f := .free "int") rfl), He.free_ok KX G (cd.fact 2 (f := .free "bool") rfl), He.free_ok KX G (cd.fact 3 (f := .free "str") rfl), He.free_ok KX G (cd.fact 4 (f := .free "list") rfl), He.free_ok KX G (cd.fact 5 (f := .free "tuple") rfl), He.free_ok KX G (cd.fact 6 (f := .free "dict") rfl), He.free_ok KX G (cd.fact 7 (f := .free "isinstance") rfl), He.free_ok KX G (cd.fact 8 (f := .free "all") rfl), He.free_ok KX G (cd.fact 9 (f := .free "zip") rfl), He.free_ok KX G (cd.fact 10 (f := .free "range") rfl), He.free_ok KX G (cd.fact 11 (f := .free "sorted") rfl), He.free_ok KX G (cd.fact 12 (f := .free "enumerate") rfl)⟩
  have mSet : mg "set" = none := He.free_ok KX G (cd.fact 13 (f := .free "set") rfl)
  obtain ⟨u_LONGEST_WORD, i_LONGEST_WORD⟩ := He.int_ok KX G (cd.fact 14 (f := .int "LONGEST_WORD" 8) rfl)
  obtain ⟨u_MOST_WORKS, i_MOST_WORKS⟩ := He.int_ok KX G (cd.fact 15 (f := .int "MOST_WORKS" 4) rfl)
  obtain ⟨u_TOP_LONGEST, i_TOP_LONGEST⟩ := He.int_ok KX G (cd.fact 16 (f := .int "TOP_LONGEST" 40) rfl)
  obtain ⟨u_TOP_MOST, i_TOP_MOST⟩ := He.int_ok KX G (cd.fact 17 (f := .int "TOP_MOST" 2000) rfl)
  obtain ⟨d_whole, D_whole⟩ := cd.def_ 0 rfl
  have F_whole : Fun K "is_whole" "is_whole" (top 15) (He.fAd K ("is_whole", none)) d_whole := toFun (st := (top 15)) D_whole
  have b_whole : L2.Binds K d_whole ["given"] [] := F_whole.binds fun _ _ _ _ _ _ us hl => match us, hl with | [_], _ => rfl
  obtain ⟨d_word, D_word⟩ := cd.def_ 1 rfl
  have F_word : Fun K "is_word" "is_word" (top 16) (He.fAd K ("is_word", none)) d_word := toFun (st := (top 16)) D_word
  have b_word : L2.Binds K d_word ["given"] [] := F_word.binds fun _ _ _ _ _ _ us hl => match us, hl with | [_], _ => rfl
  obtain ⟨d_isv, D_isv⟩ := cd.def_ 2 rfl
  have F_isv : Fun K "is_value" "is_value" (top 17) (He.fAd K ("is_value", none)) d_isv := toFun (st := (top 17)) D_isv
  have b_isv : L2.Binds K d_isv ["given"] [] := F_isv.binds fun _ _ _ _ _ _ us hl => match us, hl with | [_], _ => rfl
  obtain ⟨d_same, D_same⟩ := cd.def_ 3 rfl
  have F_same : Fun K "same" "same" (top 18) (He.fAd K ("same", none)) d_same := toFun (st := (top 18)) D_same
  have b_same : L2.Binds K d_same ["one", "other"] [] := F_same.binds fun _ _ _ _ _ _ us hl => match us, hl with | [_, _], _ => rfl
  obtain ⟨d_ckv, D_ckv⟩ := cd.def_ 4 rfl
  have F_ckv : Fun K "check_value" "check_value" (top 19) (He.fAd K ("check_value", none)) d_ckv := toFun (st := (top 19)) D_ckv
  have b_ckv : L2.Binds K d_ckv ["given"] [] := F_ckv.binds fun _ _ _ _ _ _ us hl => match us, hl with | [_], _ => rfl
  obtain ⟨d_ckt, D_ckt⟩ := cd.def_ 5 rfl
  have F_ckt : Fun K "check_thing" "check_thing" (top 20) (He.fAd K ("check_thing", none)) d_ckt := toFun (st := (top 20)) D_ckt
  have b_ckt : L2.Binds K d_ckt ["names", "name"] [] := F_ckt.binds fun _ _ _ _ _ _ us hl => match us, hl with | [_, _], _ => rfl
  obtain ⟨d_going, D_going⟩ := cd.def_ 6 rfl
  have F_going : Fun K "check_going" "check_going" (top 22) (He.fAd K ("check_going", none)) d_going := toFun (st := (top 22)) D_going
  have b_going : L2.Binds K d_going ["hand"] [] := F_going.binds fun _ _ _ _ _ _ us hl => match us, hl with | [_], _ => rfl
  obtain ⟨d_ccall, D_ccall⟩ := cd.def_ 7 rfl
  have F_ccall : Fun K "check_call" "check_call" (top 23) (He.fAd K ("check_call", none)) d_ccall := toFun (st := (top 23)) D_ccall
  obtain ⟨d_halt, D_halt⟩ := cd.def_ 8 rfl
  have F_halt : Fun K "halt" "halt" (top 24) (He.fAd K ("halt", none)) d_halt := toFun (st := (top 24)) D_halt
  have b_halt : L2.Binds K d_halt ["hand"] [] := F_halt.binds fun _ _ _ _ _ _ us hl => match us, hl with | [_], _ => rfl
  obtain ⟨d_ask, D_ask⟩ := cd.def_ 9 rfl
  have F_ask : Fun K "ask" "ask" (top 25) (He.fAd K ("ask", none)) d_ask := toFun (st := (top 25)) D_ask
  have b_ask : L2.Binds K d_ask ["hand", "wish"] [] := F_ask.binds fun _ _ _ _ _ _ us hl => match us, hl with | [_, _], _ => rfl
  obtain ⟨d_HI, D_HI⟩ := cd.def_ 10 rfl
  have F_HI : Fun K "__init__" "Hand.__init__" (inClass (top 26) 0) (He.fAd K ("Hand", some "__init__")) d_HI := toFun (st := (inClass (top 26) 0)) D_HI
  have b_HI : L2.Binds K d_HI ["self", "shop", "me", "answers"] [] := F_HI.binds fun _ _ _ _ _ _ us hl => match us, hl with | [_, _, _, _], _ => rfl
  obtain ⟨d_look, D_look⟩ := cd.def_ 11 rfl
  have F_look : Fun K "look" "Hand.look" (inClass (top 26) 1) (He.fAd K ("Hand", some "look")) d_look := toFun (st := (inClass (top 26) 1)) D_look
  have b_look : L2.Binds K d_look ["self", "cell"] [] := F_look.binds fun _ _ _ _ _ _ us hl => match us, hl with | [_, _], _ => rfl
  obtain ⟨d_swap, D_swap⟩ := cd.def_ 12 rfl
  have F_swap : Fun K "swap" "Hand.swap" (inClass (top 26) 3) (He.fAd K ("Hand", some "swap")) d_swap := toFun (st := (inClass (top 26) 3)) D_swap
  have b_swap : L2.Binds K d_swap ["self", "cell", "value"] [] := F_swap.binds fun _ _ _ _ _ _ us hl => match us, hl with | [_, _, _], _ => rfl
  obtain ⟨d_say, D_say⟩ := cd.def_ 13 rfl
  have F_say : Fun K "say" "Hand.say" (inClass (top 26) 12) (He.fAd K ("Hand", some "say")) d_say := toFun (st := (inClass (top 26) 12)) D_say
  have b_say : L2.Binds K d_say ["self", "value"] [] := F_say.binds fun _ _ _ _ _ _ us hl => match us, hl with | [_, _], _ => rfl
  obtain ⟨d_PI, D_PI⟩ := cd.def_ 14 rfl
  have F_PI : Fun K "__init__" "Place.__init__" (inClass (top 28) 0) (He.fAd K ("Place", some "__init__")) d_PI := toFun (st := (inClass (top 28) 0)) D_PI
  have b_PI : L2.Binds K d_PI ["self", "answers", "pending", "end", "words"] [] := F_PI.binds fun _ _ _ _ _ _ us hl => match us, hl with | [_, _, _, _, _], _ => rfl
  obtain ⟨d_ret, D_ret⟩ := cd.def_ 15 rfl
  have F_ret : Fun K "returned" "returned" (top 29) (He.fAd K ("returned", none)) d_ret := toFun (st := (top 29)) D_ret
  have b_ret : L2.Binds K d_ret ["work", "hand"] [] := F_ret.binds fun _ _ _ _ _ _ us hl => match us, hl with | [_, _], _ => rfl
  obtain ⟨d_come, D_come⟩ := cd.def_ 16 rfl
  have F_come : Fun K "come" "come" (top 30) (He.fAd K ("come", none)) d_come := toFun (st := (top 30)) D_come
  have b_come : L2.Binds K d_come ["shop", "k", "answers"] [] := F_come.binds fun _ _ _ _ _ _ us hl => match us, hl with | [_, _, _], _ => rfl
  obtain ⟨d_TI, D_TI⟩ := cd.def_ 17 rfl
  have F_TI : Fun K "__init__" "Things.__init__" (inClass (top 32) 0) (He.fAd K ("Things", some "__init__")) d_TI := toFun (st := (inClass (top 32) 0)) D_TI
  have b_TI : L2.Binds K d_TI ["self", "cells", "holders", "rows", "sizes"] [] := F_TI.binds fun _ _ _ _ _ _ us hl => match us, hl with | [_, _, _, _, _], _ => rfl
  obtain ⟨d_first, D_first⟩ := cd.def_ 18 rfl
  have F_first : Fun K "first_things" "first_things" (top 33) (He.fAd K ("first_things", none)) d_first := toFun (st := (top 33)) D_first
  have b_first : L2.Binds K d_first ["shop"] [] := F_first.binds fun _ _ _ _ _ _ us hl => match us, hl with | [_], _ => rfl
  obtain ⟨d_again, D_again⟩ := cd.def_ 19 rfl
  have F_again : Fun K "things_again" "things_again" (top 34) (He.fAd K ("things_again", none)) d_again := toFun (st := (top 34)) D_again
  have b_again : L2.Binds K d_again ["things"] [] := F_again.binds fun _ _ _ _ _ _ us hl => match us, hl with | [_], _ => rfl
  obtain ⟨d_room, D_room⟩ := cd.def_ 20 rfl
  have F_room : Fun K "has_room" "has_room" (top 35) (He.fAd K ("has_room", none)) d_room := toFun (st := (top 35)) D_room
  have b_room : L2.Binds K d_room ["things", "belt"] [] := F_room.binds fun _ _ _ _ _ _ us hl => match us, hl with | [_, _], _ => rfl
  obtain ⟨d_need, D_need⟩ := cd.def_ 21 rfl
  have F_need : Fun K "need_not_wait" "need_not_wait" (top 36) (He.fAd K ("need_not_wait", none)) d_need := toFun (st := (top 36)) D_need
  have b_need : L2.Binds K d_need ["things", "wish"] [] := F_need.binds fun _ _ _ _ _ _ us hl => match us, hl with | [_, _], _ => rfl
  obtain ⟨d_dlook, D_dlook⟩ := cd.def_ 22 rfl
  have F_dlook : Fun K "do_look" "do_look" (top 38) (He.fAd K ("do_look", none)) d_dlook := toFun (st := (top 38)) D_dlook
  have b_dlook : L2.Binds K d_dlook ["things", "k", "wish"] [] := F_dlook.binds fun _ _ _ _ _ _ us hl => match us, hl with | [_, _, _], _ => rfl
  obtain ⟨d_dswap, D_dswap⟩ := cd.def_ 23 rfl
  have F_dswap : Fun K "do_swap" "do_swap" (top 40) (He.fAd K ("do_swap", none)) d_dswap := toFun (st := (top 40)) D_dswap
  have b_dswap : L2.Binds K d_dswap ["things", "k", "wish"] [] := F_dswap.binds fun _ _ _ _ _ _ us hl => match us, hl with | [_, _, _], _ => rfl
  obtain ⟨d_dstep, D_dstep⟩ := cd.def_ 24 rfl
  have F_dstep : Fun K "do_step" "do_step" (top 48) (He.fAd K ("do_step", none)) d_dstep := toFun (st := (top 48)) D_dstep
  have b_dstep : L2.Binds K d_dstep ["things", "k", "wish"] [] := F_dstep.binds fun _ _ _ _ _ _ us hl => match us, hl with | [_, _, _], _ => rfl
  obtain ⟨d_place, D_place⟩ := cd.def_ 25 rfl
  have F_place : Fun K "place_of" "place_of" (top 50) (He.fAd K ("place_of", none)) d_place := toFun (st := (top 50)) D_place
  have b_place : L2.Binds K d_place ["run", "k"] [] := F_place.binds fun _ _ _ _ _ _ us hl => match us, hl with | [_, _], _ => rfl
  obtain ⟨d_cango, D_cango⟩ := cd.def_ 26 rfl
  have F_cango : Fun K "can_go" "can_go" (top 51) (He.fAd K ("can_go", none)) d_cango := toFun (st := (top 51)) D_cango
  have b_cango : L2.Binds K d_cango ["run", "place"] [] := F_cango.binds fun _ _ _ _ _ _ us hl => match us, hl with | [_, _], _ => rfl
  obtain ⟨d_pairs, D_pairs⟩ := cd.def_ 27 rfl
  have F_pairs : Fun K "in_pairs" "in_pairs" (top 52) (He.fAd K ("in_pairs", none)) d_pairs := toFun (st := (top 52)) D_pairs
  have b_pairs : L2.Binds K d_pairs ["table"] [] := F_pairs.binds fun _ _ _ _ _ _ us hl => match us, hl with | [_], _ => rfl
  obtain ⟨d_RI, D_RI⟩ := cd.def_ 28 rfl
  have F_RI : Fun K "__init__" "Run.__init__" (inClass (top 53) 0) (He.fAd K ("Run", some "__init__")) d_RI := toFun (st := (inClass (top 53) 0)) D_RI
  have b_RI : L2.Binds K d_RI ["self", "shop"] [] := F_RI.binds fun _ _ _ _ _ _ us hl => match us, hl with | [_, _], _ => rfl
  obtain ⟨d_can, D_can⟩ := cd.def_ 29 rfl
  have F_can : Fun K "can" "Run.can" (inClass (top 53) 2) (He.fAd K ("Run", some "can")) d_can := toFun (st := (inClass (top 53) 2)) D_can
  have b_can : L2.Binds K d_can ["self"] [] := F_can.binds fun _ _ _ _ _ _ us hl => match us, hl with | [_], _ => rfl
  obtain ⟨d_go, D_go⟩ := cd.def_ 30 rfl
  have F_go : Fun K "go" "Run.go" (inClass (top 53) 3) (He.fAd K ("Run", some "go")) d_go := toFun (st := (inClass (top 53) 3)) D_go
  have b_go : L2.Binds K d_go ["self", "k"] [] := F_go.binds fun _ _ _ _ _ _ us hl => match us, hl with | [_, _], _ => rfl
  obtain ⟨d_said, D_said⟩ := cd.def_ 31 rfl
  have F_said : Fun K "said" "Run.said" (inClass (top 53) 10) (He.fAd K ("Run", some "said")) d_said := toFun (st := (inClass (top 53) 10)) D_said
  have b_said : L2.Binds K d_said ["self", "k"] [] := F_said.binds fun _ _ _ _ _ _ us hl => match us, hl with | [_, _], _ => rfl
  obtain ⟨d_ends, D_ends⟩ := cd.def_ 32 rfl
  have F_ends : Fun K "ends" "Run.ends" (inClass (top 53) 6) (He.fAd K ("Run", some "ends")) d_ends := toFun (st := (inClass (top 53) 6)) D_ends
  have b_ends : L2.Binds K d_ends ["self"] [] := F_ends.binds fun _ _ _ _ _ _ us hl => match us, hl with | [_], _ => rfl
  obtain ⟨d_cell, D_cell⟩ := cd.def_ 33 rfl
  have F_cell : Fun K "cell" "Run.cell" (inClass (top 53) 7) (He.fAd K ("Run", some "cell")) d_cell := toFun (st := (inClass (top 53) 7)) D_cell
  have b_cell : L2.Binds K d_cell ["self", "name"] [] := F_cell.binds fun _ _ _ _ _ _ us hl => match us, hl with | [_, _], _ => rfl
  obtain ⟨d_outc, D_outc⟩ := cd.def_ 34 rfl
  have F_outc : Fun K "outcome" "Run.outcome" (inClass (top 53) 11) (He.fAd K ("Run", some "outcome")) d_outc := toFun (st := (inClass (top 53) 11)) D_outc
  have b_outc : L2.Binds K d_outc ["self"] [] := F_outc.binds fun _ _ _ _ _ _ us hl => match us, hl with | [_], _ => rfl
  obtain ⟨d_over, D_over⟩ := cd.def_ 35 rfl
  have F_over : Fun K "is_over" "Run.is_over" (inClass (top 53) 12) (He.fAd K ("Run", some "is_over")) d_over := toFun (st := (inClass (top 53) 12)) D_over
  have b_over : L2.Binds K d_over ["self"] [] := F_over.binds fun _ _ _ _ _ _ us hl => match us, hl with | [_], _ => rfl
  obtain ⟨d_ckw, D_ckw⟩ := cd.def_ 36 rfl
  have F_ckw : Fun K "check_works" "check_works" (top 58) (He.fAd K ("check_works", none)) d_ckw := toFun (st := (top 58)) D_ckw
  have b_ckw : L2.Binds K d_ckw ["works"] [] := F_ckw.binds fun _ _ _ _ _ _ us hl => match us, hl with | [_], _ => rfl
  obtain ⟨d_ckn, D_ckn⟩ := cd.def_ 37 rfl
  have F_ckn : Fun K "check_names" "check_names" (top 59) (He.fAd K ("check_names", none)) d_ckn := toFun (st := (top 59)) D_ckn
  have b_ckn : L2.Binds K d_ckn ["names"] [] := F_ckn.binds fun _ _ _ _ _ _ us hl => match us, hl with | [_], _ => rfl
  obtain ⟨d_cks, D_cks⟩ := cd.def_ 38 rfl
  have F_cks : Fun K "check_size" "check_size" (top 60) (He.fAd K ("check_size", none)) d_cks := toFun (st := (top 60)) D_cks
  have b_cks : L2.Binds K d_cks ["size"] [] := F_cks.binds fun _ _ _ _ _ _ us hl => match us, hl with | [_], _ => rfl
  obtain ⟨d_ckl, D_ckl⟩ := cd.def_ 39 rfl
  have F_ckl : Fun K "check_limit" "check_limit" (top 61) (He.fAd K ("check_limit", none)) d_ckl := toFun (st := (top 61)) D_ckl
  have b_ckl : L2.Binds K d_ckl ["limit", "top"] [] := F_ckl.binds fun _ _ _ _ _ _ us hl => match us, hl with | [_, _], _ => rfl
  obtain ⟨d_cop, D_cop⟩ := cd.def_ 40 rfl
  have F_cop : Fun K "copied" "copied" (top 62) (He.fAd K ("copied", none)) d_cop := toFun (st := (top 62)) D_cop
  have b_cop : L2.Binds K d_cop ["table"] [] := F_cop.binds fun _ _ _ _ _ _ us hl => match us, hl with | [_], _ => rfl
  obtain ⟨d_SI, D_SI⟩ := cd.def_ 41 rfl
  have F_SI : Fun K "__init__" "Shop.__init__" (inClass (top 63) 0) (He.fAd K ("Shop", some "__init__")) d_SI := toFun (st := (inClass (top 63) 0)) D_SI
  obtain ⟨d_names, D_names⟩ := cd.def_ 42 rfl
  have F_names : Fun K "names" "Shop.names" (inClass (top 63) 1) (He.fAd K ("Shop", some "names")) d_names := toFun (st := (inClass (top 63) 1)) D_names
  have b_names : L2.Binds K d_names ["self"] [] := F_names.binds fun _ _ _ _ _ _ us hl => match us, hl with | [_], _ => rfl
  obtain ⟨d_bes, D_bes⟩ := cd.def_ 43 rfl
  have F_bes : Fun K "beside" "Shop.beside" (inClass (top 63) 2) (He.fAd K ("Shop", some "beside")) d_bes := toFun (st := (inClass (top 63) 2)) D_bes
  obtain ⟨d_lsource, D_lsource⟩ := cd.def_ 44 rfl
  have F_lsource : Fun K "_law_source" "_law_source" (top 65) (He.fAd K ("_law_source", none)) d_lsource := toFun (st := (top 65)) D_lsource
  have b_lsource : L2.Binds K d_lsource ["_law_script", "_law_at"] [] := F_lsource.binds fun _ _ _ _ _ _ us hl => match us, hl with | [_, _], _ => rfl
  obtain ⟨d_ldraw, D_ldraw⟩ := cd.def_ 45 rfl
  have F_ldraw : Fun K "_law_draw" "_law_draw" (top 66) (He.fAd K ("_law_draw", none)) d_ldraw := toFun (st := (top 66)) D_ldraw
  have b_ldraw : L2.Binds K d_ldraw ["_law_draws", "_law_many"] [] := F_ldraw.binds fun _ _ _ _ _ _ us hl => match us, hl with | [_, _], _ => rfl
  obtain ⟨d_lpick, D_lpick⟩ := cd.def_ 46 rfl
  have F_lpick : Fun K "_law_pick" "_law_pick" (top 67) (He.fAd K ("_law_pick", none)) d_lpick := toFun (st := (top 67)) D_lpick
  have b_lpick : L2.Binds K d_lpick ["_law_draws", "_law_xs"] [] := F_lpick.binds fun _ _ _ _ _ _ us hl => match us, hl with | [_, _], _ => rfl
  obtain ⟨d_lsame, D_lsame⟩ := cd.def_ 47 rfl
  have F_lsame : Fun K "_law_same" "_law_same" (top 68) (He.fAd K ("_law_same", none)) d_lsame := toFun (st := (top 68)) D_lsame
  have b_lsame : L2.Binds K d_lsame ["_law_found", "_law_due_here"] [] := F_lsame.binds fun _ _ _ _ _ _ us hl => match us, hl with | [_, _], _ => rfl
  obtain ⟨d_lnum, D_lnum⟩ := cd.def_ 48 rfl
  have F_lnum : Fun K "_law_numbered" "_law_numbered" (top 69) (He.fAd K ("_law_numbered", none)) d_lnum := toFun (st := (top 69)) D_lnum
  have b_lnum : L2.Binds K d_lnum ["_law_base", "_law_hand"] [] := F_lnum.binds fun _ _ _ _ _ _ us hl => match us, hl with | [_, _], _ => rfl
  obtain ⟨d_ldue, D_ldue⟩ := cd.def_ 49 rfl
  have F_ldue : Fun K "_law_due" "_law_due" (top 70) (He.fAd K ("_law_due", none)) d_ldue := toFun (st := (top 70)) D_ldue
  have b_ldue : L2.Binds K d_ldue ["_law_base", "_law_many", "_law_order", "_law_start"] [] := F_ldue.binds fun _ _ _ _ _ _ us hl => match us, hl with | [_, _, _, _], _ => rfl
  obtain ⟨d_ltry, D_ltry⟩ := cd.def_ 50 rfl
  have F_ltry : Fun K "_law_trying" "_law_trying" (top 71) (He.fAd K ("_law_trying", none)) d_ltry := toFun (st := (top 71)) D_ltry
  have b_ltry : L2.Binds K d_ltry ["_law_hand"] [] := F_ltry.binds fun _ _ _ _ _ _ us hl => match us, hl with | [_], _ => rfl
  obtain ⟨d_lshops, D_lshops⟩ := cd.def_ 51 rfl
  have F_lshops : Fun K "_law_in_shops" "_law_in_shops" (top 72) (He.fAd K ("_law_in_shops", none)) d_lshops := toFun (st := (top 72)) D_lshops
  have b_lshops : L2.Binds K d_lshops ["_law_draws"] [] := F_lshops.binds fun _ _ _ _ _ _ us hl => match us, hl with | [_], _ => rfl
  obtain ⟨d_law, D_law⟩ := cd.def_ 52 rfl
  have F_law : Fun K "law" "law" (top 73) (He.fAd K ("law", none)) d_law := toFun (st := (top 73)) D_law
  have b_law : L2.Binds K d_law ["_law_script"] [] := F_law.binds fun _ _ _ _ _ _ us hl => match us, hl with | [_], _ => rfl
  obtain ⟨d_eBadWorks, D_eBadWorks⟩ := cd.def_ 53 rfl
  have F_eBadWorks : Fun K "__init__" "BadWorks.__init__" (inClass (top 3) 0) (He.fAd K ("BadWorks", some "__init__")) d_eBadWorks := toFun (st := (inClass (top 3) 0)) D_eBadWorks
  obtain ⟨d_eBadValue, D_eBadValue⟩ := cd.def_ 54 rfl
  have F_eBadValue : Fun K "__init__" "BadValue.__init__" (inClass (top 5) 0) (He.fAd K ("BadValue", some "__init__")) d_eBadValue := toFun (st := (inClass (top 5) 0)) D_eBadValue
  obtain ⟨d_eBadSize, D_eBadSize⟩ := cd.def_ 55 rfl
  have F_eBadSize : Fun K "__init__" "BadSize.__init__" (inClass (top 6) 0) (He.fAd K ("BadSize", some "__init__")) d_eBadSize := toFun (st := (inClass (top 6) 0)) D_eBadSize
  obtain ⟨d_eBadLimit, D_eBadLimit⟩ := cd.def_ 56 rfl
  have F_eBadLimit : Fun K "__init__" "BadLimit.__init__" (inClass (top 7) 0) (He.fAd K ("BadLimit", some "__init__")) d_eBadLimit := toFun (st := (inClass (top 7) 0)) D_eBadLimit
  obtain ⟨d_eNoThing, D_eNoThing⟩ := cd.def_ 57 rfl
  have F_eNoThing : Fun K "__init__" "NoThing.__init__" (inClass (top 8) 0) (He.fAd K ("NoThing", some "__init__")) d_eNoThing := toFun (st := (inClass (top 8) 0)) D_eNoThing
  obtain ⟨d_eNoWork, D_eNoWork⟩ := cd.def_ 58 rfl
  have F_eNoWork : Fun K "__init__" "NoWork.__init__" (inClass (top 10) 0) (He.fAd K ("NoWork", some "__init__")) d_eNoWork := toFun (st := (inClass (top 10) 0)) D_eNoWork
  obtain ⟨d_eCanNot, D_eCanNot⟩ := cd.def_ 59 rfl
  have F_eCanNot : Fun K "__init__" "CanNot.__init__" (inClass (top 11) 0) (He.fAd K ("CanNot", some "__init__")) d_eCanNot := toFun (st := (inClass (top 11) 0)) D_eCanNot
  have T_Hand : HTxt K (He.ga K "Hand") := ⟨He.cls_ok (cd.fact 68 rfl), He.noat_ok (cd.fact 70 rfl), He.noat_ok (cd.fact 71 rfl), He.noat_ok (cd.fact 72 rfl), He.noat_ok (cd.fact 73 rfl), He.noat_ok (cd.fact 74 rfl), He.noat_ok (cd.fact 75 rfl), He.noat_ok (cd.fact 76 rfl), He.noat_ok (cd.fact 77 rfl), He.noat_ok (cd.fact 78 rfl)⟩
  have M_Hand : Mk K (He.ga K "Hand") (He.fAd K ("Hand", some "__init__")) := He.mkr_ok (cd.fact 69 rfl)
  have T_Place : PTxt K (He.ga K "Place") := ⟨He.cls_ok (cd.fact 79 rfl), He.noat_ok (cd.fact 81 rfl), He.noat_ok (cd.fact 82 rfl), He.noat_ok (cd.fact 83 rfl), He.noat_ok (cd.fact 84 rfl)⟩
  have M_Place : Mk K (He.ga K "Place") (He.fAd K ("Place", some "__init__")) := He.mkr_ok (cd.fact 80 rfl)
  have T_Things : TTxt K (He.ga K "Things") := ⟨He.cls_ok (cd.fact 85 rfl), He.noat_ok (cd.fact 87 rfl), He.noat_ok (cd.fact 88 rfl), He.noat_ok (cd.fact 89 rfl), He.noat_ok (cd.fact 90 rfl)⟩
  have M_Things : Mk K (He.ga K "Things") (He.fAd K ("Things", some "__init__")) := He.mkr_ok (cd.fact 86 rfl)
  have T_Run : RTxt K (He.ga K "Run") := ⟨He.cls_ok (cd.fact 91 rfl), He.noat_ok (cd.fact 93 rfl), He.noat_ok (cd.fact 94 rfl), He.noat_ok (cd.fact 95 rfl), He.noat_ok (cd.fact 96 rfl)⟩
  have M_Run : Mk K (He.ga K "Run") (He.fAd K ("Run", some "__init__")) := He.mkr_ok (cd.fact 92 rfl)
  have T_Shop : STxt K (He.ga K "Shop") := ⟨He.cls_ok (cd.fact 97 rfl), He.noat_ok (cd.fact 99 rfl), He.noat_ok (cd.fact 100 rfl), He.noat_ok (cd.fact 101 rfl), He.noat_ok (cd.fact 102 rfl), He.noat_ok (cd.fact 103 rfl), He.noat_ok (cd.fact 104 rfl), He.noat_ok (cd.fact 105 rfl)⟩
  have M_Shop : Mk K (He.ga K "Shop") (He.fAd K ("Shop", some "__init__")) := He.mkr_ok (cd.fact 98 rfl)
  have h_Hand_look : Meth K (He.ga K "Hand") "look" (He.fAd K ("Hand", some "look")) := He.meth_ok (cd.fact 106 rfl)
  have h_Hand_swap : Meth K (He.ga K "Hand") "swap" (He.fAd K ("Hand", some "swap")) := He.meth_ok (cd.fact 107 rfl)
  have h_Hand_say : Meth K (He.ga K "Hand") "say" (He.fAd K ("Hand", some "say")) := He.meth_ok (cd.fact 108 rfl)
  have h_Run_can : Meth K (He.ga K "Run") "can" (He.fAd K ("Run", some "can")) := He.meth_ok (cd.fact 109 rfl)
  have h_Run_go : Meth K (He.ga K "Run") "go" (He.fAd K ("Run", some "go")) := He.meth_ok (cd.fact 110 rfl)
  have h_Run_said : Meth K (He.ga K "Run") "said" (He.fAd K ("Run", some "said")) := He.meth_ok (cd.fact 111 rfl)
  have h_Run_ends : Meth K (He.ga K "Run") "ends" (He.fAd K ("Run", some "ends")) := He.meth_ok (cd.fact 112 rfl)
  have h_Run_cell : Meth K (He.ga K "Run") "cell" (He.fAd K ("Run", some "cell")) := He.meth_ok (cd.fact 113 rfl)
  have h_Run_outcome : Meth K (He.ga K "Run") "outcome" (He.fAd K ("Run", some "outcome")) := He.meth_ok (cd.fact 114 rfl)
  have h_Run_is_over : Meth K (He.ga K "Run") "is_over" (He.fAd K ("Run", some "is_over")) := He.meth_ok (cd.fact 115 rfl)
  have h_Shop_names : Meth K (He.ga K "Shop") "names" (He.fAd K ("Shop", some "names")) := He.meth_ok (cd.fact 116 rfl)
  have h_Shop_beside : Meth K (He.ga K "Shop") "beside" (He.fAd K ("Shop", some "beside")) := He.meth_ok (cd.fact 117 rfl)
  have xHH : exmOne K (.ref (He.ga K "Held")) (.ref (He.ga K "Held")) = some true := He.exm_ok (cd.fact 118 rfl)
  have xNN : exmOne K (.ref (He.ga K "NoThing")) (.ref (He.ga K "NoThing")) = some true := He.exm_ok (cd.fact 119 rfl)
  have xHN : exmOne K (.ref (He.ga K "Held")) (.ref (He.ga K "NoThing")) = some false := He.exm_ok (cd.fact 120 rfl)
  have mo := c.more
  unfold ex at mo
  obtain ⟨x_BadWorks, mo⟩ := He.ba mo
  obtain ⟨x_BadValue, mo⟩ := He.ba mo
  obtain ⟨x_BadSize, mo⟩ := He.ba mo
  obtain ⟨x_BadLimit, mo⟩ := He.ba mo
  obtain ⟨x_NoThing, mo⟩ := He.ba mo
  obtain ⟨x_NoWork, mo⟩ := He.ba mo
  obtain ⟨x_CanNot, mo⟩ := He.ba mo
  obtain ⟨x_held, mo⟩ := He.ba mo
  obtain ⟨x_t0, mo⟩ := He.ba mo
  obtain ⟨x_steps, x_ne⟩ := He.ba mo
  have neS : He.ga K "do_look" ≠ He.ga K "do_swap" := of_decide_eq_true x_ne
  have ht0 : ∀ H, SqT K H (kwAt ("Shop", some "__init__") "locks" K) [] := fun H => noneB_ok x_t0 H
  obtain ⟨hh1, hh2⟩ := He.ba x_held
  obtain ⟨hh2, hh3⟩ := He.ba hh2
  obtain ⟨hh3, hh4⟩ := He.ba hh3
  have Z_Held : Err0 K mg "Held" (He.ga K "Held") := ⟨hh1, g_Held, hh2, of_decide_eq_true hh3, of_decide_eq_true hh4⟩
  obtain ⟨es, en, KD⟩ := c.t.tab 0 rfl
  have kd : ∀ (x f : PySem.Str), (x, He.Dv.glo f) ∈ ([("look", .glo "do_look"), ("swap", .glo "do_swap")] : List (PySem.Str × He.Dv)) → KDct K w (He.ga K "STEPS") x (.ref (He.ga K f)) := fun x f m => by
    obtain ⟨u, e1, e2⟩ := He.valsB_ok x_steps m
    exact ⟨es, en, u, KD.at_, KD.lit, e1, e2⟩
  have kL := kd "look" "do_look" (List.mem_cons_self ..)
  have kW := kd "swap" "do_swap" (List.mem_cons_of_mem _ (List.mem_cons_self ..))
  have q_BadWorks := fun_two (f := "count") F_eBadWorks (fun _ _ _ _ _ _ _ _ => rfl) (fun _ _ _ _ _ _ _ _ => rfl)
  have Z_BadWorks : ∀ base, Err1 PySem.Challenge.rw_turnways_k18_numbers_of_hands.prog w K mg base "BadWorks" "count" (He.ga K "BadWorks") := fun base => ⟨⟨_, _, errB_ok x_BadWorks q_BadWorks.1 q_BadWorks.2, ok_errI F_eBadWorks (errB_ok x_BadWorks q_BadWorks.1 q_BadWorks.2) ⟨rfl, rfl, rfl, by decide +kernel, rfl, by decide +kernel, by decide +kernel⟩ rfl (by decide) (by decide)⟩, g_BadWorks⟩
  have q_BadValue := fun_two (f := "value") F_eBadValue (fun _ _ _ _ _ _ _ _ => rfl) (fun _ _ _ _ _ _ _ _ => rfl)
  have Z_BadValue : ∀ base, Err1 PySem.Challenge.rw_turnways_k18_numbers_of_hands.prog w K mg base "BadValue" "value" (He.ga K "BadValue") := fun base => ⟨⟨_, _, errB_ok x_BadValue q_BadValue.1 q_BadValue.2, ok_errI F_eBadValue (errB_ok x_BadValue q_BadValue.1 q_BadValue.2) ⟨rfl, rfl, rfl, by decide +kernel, rfl, by decide +kernel, by decide +kernel⟩ rfl (by decide) (by decide)⟩, g_BadValue⟩
  have q_BadSize := fun_two (f := "size") F_eBadSize (fun _ _ _ _ _ _ _ _ => rfl) (fun _ _ _ _ _ _ _ _ => rfl)
  have Z_BadSize : ∀ base, Err1 PySem.Challenge.rw_turnways_k18_numbers_of_hands.prog w K mg base "BadSize" "size" (He.ga K "BadSize") := fun base => ⟨⟨_, _, errB_ok x_BadSize q_BadSize.1 q_BadSize.2, ok_errI F_eBadSize (errB_ok x_BadSize q_BadSize.1 q_BadSize.2) ⟨rfl, rfl, rfl, by decide +kernel, rfl, by decide +kernel, by decide +kernel⟩ rfl (by decide) (by decide)⟩, g_BadSize⟩
  have q_BadLimit := fun_two (f := "limit") F_eBadLimit (fun _ _ _ _ _ _ _ _ => rfl) (fun _ _ _ _ _ _ _ _ => rfl)
  have Z_BadLimit : ∀ base, Err1 PySem.Challenge.rw_turnways_k18_numbers_of_hands.prog w K mg base "BadLimit" "limit" (He.ga K "BadLimit") := fun base => ⟨⟨_, _, errB_ok x_BadLimit q_BadLimit.1 q_BadLimit.2, ok_errI F_eBadLimit (errB_ok x_BadLimit q_BadLimit.1 q_BadLimit.2) ⟨rfl, rfl, rfl, by decide +kernel, rfl, by decide +kernel, by decide +kernel⟩ rfl (by decide) (by decide)⟩, g_BadLimit⟩
  have q_NoThing := fun_two (f := "name") F_eNoThing (fun _ _ _ _ _ _ _ _ => rfl) (fun _ _ _ _ _ _ _ _ => rfl)
  have Z_NoThing : ∀ base, Err1 PySem.Challenge.rw_turnways_k18_numbers_of_hands.prog w K mg base "NoThing" "name" (He.ga K "NoThing") := fun base => ⟨⟨_, _, errB_ok x_NoThing q_NoThing.1 q_NoThing.2, ok_errI F_eNoThing (errB_ok x_NoThing q_NoThing.1 q_NoThing.2) ⟨rfl, rfl, rfl, by decide +kernel, rfl, by decide +kernel, by decide +kernel⟩ rfl (by decide) (by decide)⟩, g_NoThing⟩
  have q_NoWork := fun_two (f := "number") F_eNoWork (fun _ _ _ _ _ _ _ _ => rfl) (fun _ _ _ _ _ _ _ _ => rfl)
  have Z_NoWork : ∀ base, Err1 PySem.Challenge.rw_turnways_k18_numbers_of_hands.prog w K mg base "NoWork" "number" (He.ga K "NoWork") := fun base => ⟨⟨_, _, errB_ok x_NoWork q_NoWork.1 q_NoWork.2, ok_errI F_eNoWork (errB_ok x_NoWork q_NoWork.1 q_NoWork.2) ⟨rfl, rfl, rfl, by decide +kernel, rfl, by decide +kernel, by decide +kernel⟩ rfl (by decide) (by decide)⟩, g_NoWork⟩
  have q_CanNot := fun_two (f := "number") F_eCanNot (fun _ _ _ _ _ _ _ _ => rfl) (fun _ _ _ _ _ _ _ _ => rfl)
  have Z_CanNot : ∀ base, Err1 PySem.Challenge.rw_turnways_k18_numbers_of_hands.prog w K mg base "CanNot" "number" (He.ga K "CanNot") := fun base => ⟨⟨_, _, errB_ok x_CanNot q_CanNot.1 q_CanNot.2, ok_errI F_eCanNot (errB_ok x_CanNot q_CanNot.1 q_CanNot.2) ⟨rfl, rfl, rfl, by decide +kernel, rfl, by decide +kernel, by decide +kernel⟩ rfl (by decide) (by decide)⟩, g_CanNot⟩
  have okIsV := fun (B0 : Heap) => ok_isV (P := PySem.Challenge.rw_turnways_k18_numbers_of_hands.prog) (w := w) (base := B0) F_isv B g_is_value b_isv 1
  have okSame := fun (B0 : Heap) => ok_same (P := PySem.Challenge.rw_turnways_k18_numbers_of_hands.prog) (w := w) (base := B0) F_same B g_same b_same 1
  have okCkV := fun (B0 : Heap) => ok_ckV (n := 1) F_ckv (okIsV B0) g_is_value F_isv.kp b_isv (Z_BadValue B0)
  have okCkT := fun (B0 : Heap) => ok_ckT F_ckt B (Z_NoThing B0)
  have okGoing := fun (B0 : Heap) => ok_going (P := PySem.Challenge.rw_turnways_k18_numbers_of_hands.prog) (w := w) (mg := mg) (base := B0) F_going T_Hand Z_Held
  have okHalt := fun (B0 : Heap) => ok_halt (P := PySem.Challenge.rw_turnways_k18_numbers_of_hands.prog) (w := w) (mg := mg) (base := B0) F_halt T_Hand Z_Held
  have okAsk := fun (B0 : Heap) => ok_ask F_ask B T_Hand (okHalt B0) g_halt F_halt.kp b_halt
  have okCall := fun (B0 : Heap) => ok_call (n := 1) F_ccall (okGoing B0) g_check_going F_going.kp b_going (okCkT B0) g_check_thing F_ckt.kp b_ckt (okCkV B0) g_check_value F_ckv.kp b_ckv
  have parts := fun (B0 : Heap) => (⟨⟨_, okCall B0, g_check_call, F_ccall.kp⟩, ⟨_, _, okAsk B0, g_ask, F_ask.kp, b_ask⟩⟩ : Parts PySem.Challenge.rw_turnways_k18_numbers_of_hands.prog w K mg B0 (He.ga K "Hand") (He.ga K "Held") (He.ga K "NoThing") (He.ga K "BadValue") 1)
  have shorts := fun (B0 : Heap) => (⟨⟨_, _, okGoing B0, g_check_going, F_going.kp, b_going⟩, ⟨_, _, okCkV B0, g_check_value, F_ckv.kp, b_ckv⟩, ⟨_, _, okAsk B0, g_ask, F_ask.kp, b_ask⟩, ⟨_, _, okHalt B0, g_halt, F_halt.kp, b_halt⟩⟩ : Shorts PySem.Challenge.rw_turnways_k18_numbers_of_hands.prog w K mg B0 (He.ga K "Hand") (He.ga K "Held") (He.ga K "BadValue") 1)
  have okLook := fun (B0 : Heap) => ok_look (CS := He.ga K "Shop") F_look T_Hand T_Shop (parts B0)
  have okSwap := fun (B0 : Heap) => ok_swap (CS := He.ga K "Shop") F_swap T_Hand T_Shop (parts B0)
  have okSay := fun (B0 : Heap) => ok_say F_say T_Hand (shorts B0)
  have okHI := fun (B0 : Heap) => ok_HI (P := PySem.Challenge.rw_turnways_k18_numbers_of_hands.prog) (w := w) (mg := mg) (base := B0) F_HI T_Hand
  have okPI := fun (B0 : Heap) => ok_PI (P := PySem.Challenge.rw_turnways_k18_numbers_of_hands.prog) (w := w) (mg := mg) (base := B0) F_PI T_Place
  have okRet := fun (kw : Nat) (B0 : Heap) => ok_ret (P := PySem.Challenge.rw_turnways_k18_numbers_of_hands.prog) (w := w) (mg := mg) (base := B0) (kw := kw) F_ret T_Hand g_Held
  have okCome := fun (kw : Nat) (B0 : Heap) => ok_come (CS := He.ga K "Shop") (n := 1) F_come B T_Hand T_Shop M_Hand (okHI B0) g_Hand b_HI (okRet kw B0) g_returned F_ret.kp b_ret (okCkV B0) g_check_value F_ckv.kp b_ckv M_Place (okPI B0) g_Place b_PI
  have okTI := fun (B0 : Heap) => ok_TI (P := PySem.Challenge.rw_turnways_k18_numbers_of_hands.prog) (w := w) (mg := mg) (base := B0) F_TI T_Things
  have okFirst := fun (B0 : Heap) => ok_first (CS := He.ga K "Shop") F_first B T_Things T_Shop M_Things (okTI B0) g_Things b_TI
  have okAgain := fun (B0 : Heap) => ok_again F_again B T_Things M_Things (okTI B0) g_Things b_TI
  have okRoom := fun (B0 : Heap) => ok_room (P := PySem.Challenge.rw_turnways_k18_numbers_of_hands.prog) (w := w) (base := B0) F_room B T_Things
  have okNeed := fun (B0 : Heap) => ok_need F_need B T_Things (okSame B0) g_same F_same.kp b_same (okRoom B0) g_has_room F_room.kp b_room
  have okDLook := fun (B0 : Heap) => ok_do_look (P := PySem.Challenge.rw_turnways_k18_numbers_of_hands.prog) (w := w) (mg := mg) (base := B0) F_dlook T_Things
  have okDSwap := fun (B0 : Heap) => ok_do_swap (P := PySem.Challenge.rw_turnways_k18_numbers_of_hands.prog) (w := w) (mg := mg) (base := B0) F_dswap T_Things
  obtain ⟨S, hS⟩ : ∃ S : Addr → Option Sp, S = fun f => if f = He.ga K "do_look" then some (spStep K (He.ga K "Things") dLook) else if f = He.ga K "do_swap" then some (spStep K (He.ga K "Things") dSwap) else none := ⟨_, rfl⟩
  have sL : S (He.ga K "do_look") = some (spStep K (He.ga K "Things") dLook) := by
    rw [hS]
    exact if_pos rfl
  have sW : S (He.ga K "do_swap") = some (spStep K (He.ga K "Things") dSwap) := by
    rw [hS]
    exact (if_neg (fun z => neS z.symm)).trans (if_pos rfl)
  have held : ∀ (B0 : Heap) (f : Addr) (sp : Sp), S f = some sp → Held PySem.Challenge.rw_turnways_k18_numbers_of_hands.prog w K mg B0 1 f sp := fun B0 f sp e => by
    rw [hS] at e
    by_cases c1 : f = He.ga K "do_look"
    · have e2 := (if_pos c1).symm.trans e
      obtain rfl := (Option.some.inj e2)
      subst c1
      exact ⟨_, _, okDLook B0, F_dlook.kp, b_dlook⟩
    · have e1 := (if_neg c1).symm.trans e
      by_cases c2 : f = He.ga K "do_swap"
      · have e2 := (if_pos c2).symm.trans e1
        obtain rfl := (Option.some.inj e2)
        subst c2
        exact ⟨_, _, okDSwap B0, F_dswap.kp, b_dswap⟩
      · exact absurd ((if_neg c2).symm.trans e1) (fun z => nomatch z)
  have okDStep := fun (B0 : Heap) => ok_do_step F_dstep g_STEPS (held B0)
  have okWhole := fun (B0 : Heap) => ok_whole (P := PySem.Challenge.rw_turnways_k18_numbers_of_hands.prog) (w := w) (base := B0) F_whole B
  have okPlace := fun (B0 : Heap) => ok_place (CT := He.ga K "Things") (CP := He.ga K "Place") F_place B T_Run (okWhole B0) g_is_whole F_whole.kp b_whole (Z_NoWork B0)
  have okCanGo := fun (B0 : Heap) => ok_canGo (n := 1) F_cango T_Run T_Place (okNeed B0) g_need_not_wait F_need.kp b_need
  have okCan := fun (B0 : Heap) => ok_can (n := 1) Sm.keeps F_can B T_Run (okCanGo B0) g_can_go F_cango.kp b_cango
  have okEnds := fun (B0 : Heap) => ok_ends (P := PySem.Challenge.rw_turnways_k18_numbers_of_hands.prog) (w := w) (base := B0) (CT := He.ga K "Things") F_ends B T_Run T_Place
  have okSaid := fun (B0 : Heap) => ok_said F_said T_Place (okPlace B0) g_place_of F_place.kp b_place
  have okCell := fun (B0 : Heap) => ok_cell (CP := He.ga K "Place") F_cell T_Run T_Things (okCkT B0) g_check_thing F_ckt.kp b_ckt
  have okPairs := fun (B0 : Heap) => ok_pairs (P := PySem.Challenge.rw_turnways_k18_numbers_of_hands.prog) (w := w) (base := B0) F_pairs B
  have okOutc := fun (B0 : Heap) => ok_outcome F_outc B T_Run T_Place T_Things (okEnds B0) h_Run_ends b_ends (okPairs B0) g_in_pairs F_pairs.kp b_pairs
  have okOver := fun (B0 : Heap) => ok_over (n := 1) F_over T_Run h_Run_can (okCan B0) b_can
  have okRI := fun (kw : Nat) (B0 : Heap) => ok_RI F_RI B T_Run T_Shop ((okFirst B0).mono (by omega : 3 ≤ kw + 5)) g_first_things F_first.kp b_first ((okCome kw B0).mono (by omega : kw + 1 + 4 ≤ kw + 5)) g_come F_come.kp b_come
  have okGo := fun (kw : Nat) (B0 : Heap) => ok_go F_go T_Run T_Place (by omega : 2 ≤ kw + 5) ((okPlace B0).mono (by omega)) g_place_of F_place.kp b_place ((okCanGo B0).mono (by omega)) g_can_go F_cango.kp b_cango (Z_CanNot B0) ((okAgain B0).mono (by omega)) g_things_again F_again.kp b_again ((okDStep B0).mono (by omega)) g_do_step F_dstep.kp b_dstep ((okCome kw B0).mono (by omega : kw + 1 + 4 ≤ kw + 5)) g_come F_come.kp b_come
  have okCkW := fun (B0 : Heap) => ok_ckW F_ckw B i_MOST_WORKS ⟨_, rfl⟩ (Z_BadWorks B0)
  have okWord := fun (B0 : Heap) => ok_word (P := PySem.Challenge.rw_turnways_k18_numbers_of_hands.prog) (w := w) (base := B0) F_word B i_LONGEST_WORD ⟨_, rfl⟩
  have okCkN := fun (B0 : Heap) => ok_names F_ckn mSet (okWord B0) g_is_word F_word.kp b_word
  have okCkS := fun (B0 : Heap) => ok_ckS F_cks (okWhole B0) g_is_whole F_whole.kp b_whole (Z_BadSize B0)
  have okCkL := fun (B0 : Heap) => ok_ckL F_ckl (okWhole B0) g_is_whole F_whole.kp b_whole (Z_BadLimit B0)
  have okCop := fun (B0 : Heap) => ok_copied (P := PySem.Challenge.rw_turnways_k18_numbers_of_hands.prog) (w := w) (base := B0) F_cop B
  have okSI := fun (B0 : Heap) => ok_SI (n := 1) F_SI B T_Shop (okCop B0) g_copied F_cop.kp b_cop (okCkW B0) g_check_works F_ckw.kp b_ckw (okCkN B0) g_check_names F_ckn.kp b_ckn (okCkV B0) g_check_value F_ckv.kp b_ckv (okCkS B0) g_check_size F_cks.kp b_cks (okCkL B0) g_check_limit F_ckl.kp b_ckl i_TOP_LONGEST ⟨_, rfl⟩ i_TOP_MOST ⟨_, rfl⟩
  have FSI : FunSI K (kwAt ("Shop", some "__init__") "locks" K) (He.fAd K ("Shop", some "__init__")) d_SI := D_SI
  have okNamesOf := fun (B0 : Heap) => ok_namesOf (P := PySem.Challenge.rw_turnways_k18_numbers_of_hands.prog) (w := w) (base := B0) F_names B T_Shop
  have okBes := fun (B0 : Heap) => ok_beside F_bes B T_Shop M_Shop (okCkW B0) g_check_works F_ckw.kp b_ckw (okNamesOf B0) h_Shop_names b_names (okSI B0) g_Shop (kb_all FSI)
  obtain ⟨dsB, vB, bB⟩ := kb_bes D_bes
  have okLSource := fun (B0 : Heap) => ok_source (P := PySem.Challenge.rw_turnways_k18_numbers_of_hands.prog) (w := w) (base := B0) F_lsource B
  have okLDraw := fun (B0 : Heap) => ok_draw (P := PySem.Challenge.rw_turnways_k18_numbers_of_hands.prog) (w := w) (base := B0) F_ldraw B
  have okLPick := fun (B0 : Heap) => ok_pick F_lpick B (okLDraw B0) g__law_draw F_ldraw.kp b_ldraw
  have okLSame := fun (B0 : Heap) => ok_lsame (P := PySem.Challenge.rw_turnways_k18_numbers_of_hands.prog) (w := w) (base := B0) F_lsame B g__law_same b_lsame 3
  have okLDue := fun (B0 : Heap) => ok_due (P := PySem.Challenge.rw_turnways_k18_numbers_of_hands.prog) (w := w) (base := B0) F_ldue B
  have okLNum := fun (B0 : Heap) => ok_num F_lnum B T_Hand (okLook B0) h_Hand_look b_look (okSwap B0) h_Hand_swap b_swap (okSay B0) h_Hand_say b_say (Nat.le_refl 1)
  have okLTry := fun (B0 : Heap) => ok_trying F_ltry T_Hand g_NoThing (errB_ok x_NoThing q_NoThing.1 q_NoThing.2).x (errB_ok x_NoThing q_NoThing.1 q_NoThing.2).no xNN xHN (okLook B0) h_Hand_look b_look (okSay B0) h_Hand_say b_say (Nat.le_refl 1)
  have rf := fun (B0 : Heap) => (⟨T_Run, ⟨_, _, M_Run, (okRI 7 B0).mono (by omega : 7 + 5 + 1 ≤ 14), g_Run, b_RI⟩, ⟨_, _, (okCan B0).mono (by omega : 1 + 4 ≤ 14), h_Run_can, b_can⟩, ⟨_, _, (okGo 7 B0).mono (by omega : 7 + 5 + 1 ≤ 14), h_Run_go, b_go⟩, ⟨_, _, (okSaid B0).mono (by omega : 4 ≤ 14), h_Run_said, b_said⟩, ⟨_, _, (okEnds B0).mono (by omega : 1 ≤ 14), h_Run_ends, b_ends⟩⟩ : RunFns PySem.Challenge.rw_turnways_k18_numbers_of_hands.prog w K mg B0 (He.ga K "Hand") (He.ga K "Shop") (He.ga K "Place") (He.ga K "Held") (He.ga K "BadValue") (He.ga K "Run") (He.ga K "Things") (He.ga K "NoWork") (He.ga K "CanNot") (He.ga K "STEPS") S (fun H x y b => Sm K H 1 x y b) 14 7 1)
  have okLShops := fun (B0 : Heap) (X0 : K.In B0) => ok_shops F_lshops B M_Shop ((okSI B0).mono (by omega : 1 + 4 ≤ 14)) g_Shop FSI ht0 (okLTry B0) g__law_trying b_ltry (fnAt_K F_ltry X0) xHH ((okLPick B0).mono (by omega : 2 ≤ 14)) g__law_pick F_lpick.kp b_lpick ((okLSame B0).mono (by omega : 3 + 1 ≤ 14)) g__law_same F_lsame.kp b_lsame (rf B0) kL sL
  refine ⟨d_law, tf.map (He.cT K), spLaw K ((tf.map (He.cT K)).map fun p => (p.2, qLam)), fun p hp => ?_, fun p hp => ?_, fun p hp => ?_, binds_of F_law (fun _ _ _ _ _ _ _ => rfl), fun H a ns hl hbits hT hns => ⟨a, ns, rfl, hns, hl, fun p hp => ?_, fun _ => rfl⟩, fun base X0 G0 hTB => ?_⟩
  · obtain ⟨q, hq, rfl⟩ := List.mem_map.mp hp
    exact c.empty q hq
  · obtain ⟨q, hq, rfl⟩ := List.mem_map.mp hp
    exact c.out q hq
  · obtain ⟨q, hq, rfl⟩ := List.mem_map.mp hp
    exact codeHd_of_K KX (c.hd q hq)
  · obtain ⟨q, hq, rfl⟩ := List.mem_map.mp hp
    exact LamX.TabS.nil (hT q hq)
  · exact ok_law (N := 16) (kN := 7) (n := 1) (toFunC F_law) B (hTB _ (List.mem_cons_self ..)) M_Shop ((okSI base).mono (by omega : 1 + 4 ≤ 16)) g_Shop FSI ht0 T_Shop T_Run ⟨_, _, (okLSource base).mono (by omega : 1 ≤ 16), g__law_source, F_lsource.kp, b_lsource⟩ ⟨_, _, (okLDraw base).mono (by omega : 1 ≤ 16), g__law_draw, F_ldraw.kp, b_ldraw⟩
      ⟨_, _, (okLPick base).mono (by omega : 2 ≤ 16), g__law_pick, F_lpick.kp, b_lpick⟩ ⟨_, _, (okLSame base).mono (by omega : 3 + 1 ≤ 16), g__law_same, F_lsame.kp, b_lsame⟩ ⟨_, _, (okLDue base).mono (by omega : 1 ≤ 16), g__law_due, F_ldue.kp, b_ldue⟩ ⟨_, _, (okLShops base X0).mono (by omega : 14 + 2 ≤ 16), g__law_in_shops, F_lshops.kp, b_lshops⟩
      ((okBes base).mono (by omega : 1 + 6 ≤ 16)) h_Shop_beside bB vB M_Run g_Run b_RI (fun B0 _ => (okRI 8 B0).mono (by omega : 8 + 5 + 1 ≤ 16)) h_Run_go b_go (fun B0 _ => (okGo 8 B0).mono (by omega : 8 + 5 + 1 ≤ 16)) ⟨_, _, (okOutc base).mono (by omega : 3 ≤ 16), h_Run_outcome, b_outc⟩ ⟨_, _, (okCell base).mono (by omega : 4 ≤ 16), h_Run_cell, b_cell⟩ ⟨_, _, (okOver base).mono (by omega : 1 + 5 ≤ 16), h_Run_is_over, b_over⟩
      (fun B0 _ => (okLNum B0).mono (by omega : 1 + 6 ≤ 7)) g__law_numbered F_lnum.kp b_lnum T_Hand xHH kL sL kW sW
end TWHead
open PySem PySem.W PySem.Calls PyProof.Rows
set_option maxRecDepth 100000 in
set_option maxHeartbeats 0 in
theorem PySem.Challenge.cw_turnways_k18_numbers_of_hands_holds : PySem.Challenge.rw_turnways_k18_numbers_of_hands.Holds := by
  w_on; o_law
  refine HandSHeadRun.head_any (r := OpenLaw.row PySem.Challenge.rw_turnways_k18_numbers_of_hands) (q := TWHead.qv) (H := TWHead.hk) (ob := TWHead.ob) (M := 40000) (loose := TWHead.names) (d := HandSHeadRun.topDef (OpenLaw.row PySem.Challenge.rw_turnways_k18_numbers_of_hands).prog 73) (kwd := []) TWHead.ob_eq
    (by kernel_rfl) (fun s => by kernel_rfl) TWHead.run (by kernel_rfl) (by kernel_rfl) (by kernel_rfl) (by rfl) (by first | assumption | decide +kernel) (by decide +kernel) ⟨rfl, rfl, rfl, rfl, rfl, by decide +kernel⟩ ?hw ?hc
  case hw => w_witness2
  case hc =>
    refine LamX.walk_ofTsE (l := PySem.Challenge.rw_turnways_k18_numbers_of_hands) (n := 63) (k := 18) (x := "_law_script") (CX := fun _ => L2.CX0) rfl (by decide) (by kernel_rfl) ⟨rfl, by decide, by decide⟩ ?F (fun _ _ _ _ _ z => z)
    intro w mg fa h Y G hmg0
    obtain ⟨K, KX, c⟩ := Y
    have hmg : mg ("law" : PySem.Str) = some (.ref fa) := by
      have e : (HandSHeadRun.topDef (OpenLaw.row PySem.Challenge.rw_turnways_k18_numbers_of_hands).prog 73).name = ("law" : PySem.Str) := by kernel_rfl
      rw [← e]
      exact hmg0
    exact ⟨K, KX, TWHead.at_end w mg fa h K KX c G hmg⟩
