import PyProof.Rows.All
import Wide.All
import OpenK.AllK
import Wide.FinOn
import PySem.Challenge.RW_turnways_k01_errors_made
import HandS.ForMost
import HandS.IsInst
import HandS.Exc
import HandS.ExcInit
import HandS.ExcIs
import HandS.ExcValue
import HandS.Lambda
import HandS.EndTab
import HandS.Defaults
import HandS.MakeKw
import HandS.ExcField
import HandS.Walk
import HandS.Zip
set_option Elab.async false
set_option linter.all false
set_option maxRecDepth 100000
set_option maxHeartbeats 0
/-! k01: each own error is made by place and by name, is of its own class alone, and tells what it holds; Held and Beyond. The head; own errors as values; lambdas of one parameter; the law's defs, one theorem each; the facts of the top. -/
section
open PySem PySem.W PyProof.Rows
open_top k01_head for PySem.Challenge.rw_turnways_k01_errors_made
end
/-! Own errors as values: made by place and by name, asked by isinstance, their field read. -/
namespace PySem.W
open PySem PySem.Spec PySem.Calls PyProof.Rows
section
variable {prog : Program} {w : World} {A : Around} {E : Value → Shared → Prop} {s : Shared} {K : Frag} {x D : Addr} {ox : Obj} {od : Option Obj}
theorem ve_findData {C : Addr} {name : Str} {a g : Value} (hc : (clsIn K C).isSome = true) (ha : findIn K (.ref C) name = some (some a)) (hg : specialIn K a "__get__" = some (some g)) (ht : takesIn K a = some true) : findObj K C od name = some (.bind g a) := by
  obtain ⟨cd, hc⟩ := Option.isSome_iff_exists.mp hc
  unfold findObj
  rw [hc, Option.bind_some, ha, Option.bind_some]
  simp [hg, ht]
/-- what isinstance leans on, of the class at D of an error -/
structure AsksOf (K : Frag) (D : Addr) : Prop where
  by_ : findIn K (.ref D) "__getattribute__" = some (some (.builtin "BaseException.__getattribute__"))
  else_ : findIn K (.ref D) "__getattr__" = some none
  isE : subIn K (.ref D) (.type "BaseException") = some true
  dct : hasDictIn K D = true
  clsA : findIn K (.ref D) "__class__" = some (some (.builtin "object.__class__"))
  got : specialIn K (.builtin "object.__class__") "__get__" = some (some (.builtin "getset_descriptor.__get__"))
  took : takesIn K (.builtin "object.__class__") = some true
  obj : mroIn K D (.type "object") = some true
/-- e.__class__ of an error e, whether or not it has a dict of its own -/
theorem ve_class {Q : Option Value → Shared → Prop} (Z : AsksOf K D) (X : K.In s.heap) (I : InstAt s.heap x ox D od) (done : Q (some (.ref D)) { s with toks := s.toks + 1 }) :
    wpAny (model prog w) A (getAttr? (.ref x) "__class__") Q E s := by
  have known : (clsIn K D).isSome = true := by
    obtain ⟨cd, e, _⟩ := any_some Z.dct
    rw [e]
    rfl
  have found : findObj K D od "__class__" = some (.bind (.builtin "getset_descriptor.__get__") (.builtin "object.__class__")) :=
    ve_findData known Z.clsA Z.got Z.took
  have other : (Value.builtin "BaseException.__getattribute__" == Value.builtin "object.__getattribute__") = false := by
    decide +kernel
  have noHeap : (onTheHeap (Value.ref D) && Value.builtin "BaseException.__getattribute__" == Value.builtin "object.__getattribute__") = false := by
    rw [other]
    rfl
  have noExpr : (false && onTheHeap (Value.builtin "BaseException.__getattribute__")) = false := rfl
  obtain ⟨hp, g, d, t, os⟩ := s
  have ofType := I.type (M := model prog w)
  have ofBy := looks_findIn (M := model prog w) X Z.by_
  have ofElse := looks_findIn (M := model prog w) X Z.else_
  have ofCls := looks_find (M := model prog w) X I found
  have isErr : Looks (model prog w) hp (isInstance (.ref x) (.type "BaseException")) true :=
    ofType.andThen (looks_subIn X Z.isE)
  unfold getAttr? getAttrBy? getAttrBy
  refine wpAny_bind (wpAny_mkText (wpAny_bind ?_))
  refine wpAny_attempt (wpAny_holding (wpAny_bind ?_))
  refine ofType.at (wpAny_bind (ofBy.at ?_))
  show wpAny _ _ (if (onTheHeap (Value.ref D) && Value.builtin "BaseException.__getattribute__" == Value.builtin "object.__getattribute__") = true then _ else _) _ _ _
  rw [noHeap, if_neg Bool.false_ne_true]
  unfold getAttrByItsOwn hookBefore
  refine wpAny_bind ?_
  rw [if_pos (show onTheHeap (Value.ref D) = true from rfl)]
  refine ofElse.at (wpAny_bind ?_)
  refine wpAny_attempt (wpAny_holding ?_)
  unfold callGetattribute
  rw [noExpr, if_neg Bool.false_ne_true]
  unfold boundAndCalled
  rw [PySem.F.excAttr_ValueError.ga.bind (.ref x)]
  refine wpAny_bind (wpAny_pure ?_)
  show wpAny _ _ (call (.builtin "BaseException.__getattribute__") [.ref x, .str "__class__" t]) _ _ _
  refine wpAny_call (codeAny_call_builtin PySem.F.excAttr_ValueError.ga.plain PySem.F.entry_bexc_ga ?_)
  refine @check_slot (model prog w) _ _ ⟨hp, g, d, t + 1, os⟩ "BaseException.__getattribute__" "BaseException" "__getattribute__" (.ref x) [.str "__class__" t] []
    _ (by decide +kernel) (by decide +kernel) isErr (PySem.F.args_bexc_ga (.ref x) (.str "__class__" t)) ?_
  unfold Builtin.«object.__getattribute__»
  refine wpAny_bind ?_
  refine wpAny_of_eq (a := ((Value.ref x : Value), [Value.str "__class__" t])) (by first | rfl | (simp only [slotArgs]; rfl)) ?_
  refine wpAny_bind (wpAny_pure (wpAny_bind (ofType.at (wpAny_bind ?_))))
  refine ofCls.at ?_
  show wpAny _ _ (holding [Value.builtin "object.__class__"] (call (.builtin "getset_descriptor.__get__") [.builtin "object.__class__", .ref x, .ref D]) >>= ret) _ _ _
  refine wpAny_bind (wpAny_holding (wpAny_call ?_))
  refine class_get (s := ⟨hp, g, d, t + 1, os⟩) (ox := ox) (od := od) X I Z.obj (wpAny_pure ?_)
  show wpAny _ _ (handedOut (.ref D)) _ _ _
  rw [handedOut_of (v := .ref D) rfl]
  first
    | exact wpAny_pure (wpAny_pure done)
    | exact wpAny_pure done
    | exact wpAny_pure (wpAny_bind (wpAny_pure (wpAny_pure done)))
theorem cls_there {D : Addr} (Z : AsksOf K D) : ∃ o c, K.lookup D = some o ∧ o.data = .cls c := by
  obtain ⟨c, e, _⟩ := any_some Z.dct
  unfold clsIn at e
  split at e
  · rename_i q
    exact ⟨_, _, q, rfl⟩
  · cases e
theorem ve_kitx (Z : AsksOf K D) : KitX K (.ref x) (.ref D) (fun h => InstAt h x ox D od) := by
  obtain ⟨o, c, q, hd⟩ := cls_there Z
  refine ⟨fun _ _ _ I => I.type, fun _ _ X _ => ?_, fun h tp dd its n sl X tup => ?_, fun X I k => ve_class Z X I k⟩
  · intro A' Q' E' s' kept done
    unfold isType loadHead
    refine wpAny_bind (wpAny_loadPart (kept _ _ (X _ _ q)) ?_)
    obtain ⟨oc, od', dt, sl⟩ := o
    subst hd
    exact wpAny_pure done
  · refine Bool.eq_false_iff.mpr fun z => ?_
    have e : D = tp := Value.ref.inj (beq_iff_eq.mp z)
    rw [← e, X _ _ q] at tup
    have y := Option.some.inj tup
    rw [y] at hd
    cases hd
end
end PySem.W

namespace L2
open PySem PySem.Spec PyProof.Rows
/-- an error of the class at C stands at a: with a dict of its fields, or without any -/
def ErrAt (H : Hp) (a C : Addr) : Prop := (∃ d fs, H a = some (exo a C (some d)) ∧ H d = some (exd d fs)) ∨ H a = some (ExO (.ref C) a)
theorem ErrAt.same {H H' : Hp} {a C : Addr} (e : Same H H') (h : ErrAt H a C) : ErrAt H' a C := by
  rcases h with ⟨d, fs, h1, h2⟩ | h
  · exact .inl ⟨d, fs, e _ _ h1, e _ _ h2⟩
  · exact .inr (e _ _ h)
theorem ErrAt.inst {P : Program} {w : World} {H : Hp} {h : Heap} {a C : Addr} (hok : HOk P w H h) (e : ErrAt H a C) : ∃ (ox : Obj) (od : Option Obj), PySem.W.InstAt h a ox C od := by
  rcases e with ⟨d, fs, h1, h2⟩ | h1
  · obtain ⟨t1, ho⟩ := exo_at hok h1
    obtain ⟨mA, hns, _⟩ := exd_at hok h2
    obtain ⟨od, hod, _⟩ := lookIn_ns hns
    exact ⟨_, some od, ho, rfl, rfl, hod⟩
  · obtain ⟨⟨oe, vs, ho, hz, hd, _⟩, _, _⟩ := hok a _ h1
    obtain ⟨oc, odd, dt, sl⟩ := oe
    obtain ⟨z1, z2⟩ := hz
    dsimp only at z1 z2 hd
    subst z1 z2 hd
    exact ⟨_, none, ho, rfl, rfl, trivial⟩
/-- isinstance(e, c), e such an error -/
def rIsV (K : PySem.W.Frag) : List V → Hp → VK → Prop := fun xs H Q => ∃ (a D : Addr) (c : V) (cv : Value) (b : Bool), xs = [.ref a, c] ∧ ErrAt H a D ∧ ExcC K D ∧ ClsV c cv ∧ PySem.W.kitOne K (.ref D) cv = some b ∧ Q (.bl b) H
theorem call_isV {X : Cx} : CallR X (.builtin "isinstance") (rIsV X.K) := by
  intro pins s σ H xs us Q I r h
  obtain ⟨a, D, c, cv, b, rfl, hE, C, k, e, q⟩ := h
  obtain ⟨u1, u2, rfl, r1, r2⟩ := vals2 r
  have e2 := k.eq r2
  subst e2
  cases (show u1 = Value.ref a from r1)
  obtain ⟨ox, od, J⟩ := hE.inst I.hok
  exact PySem.W.kia_one (PySem.W.ve_kitx ⟨C.hg, C.hk, C.hs, C.hd, C.ha, C.hn, C.ht, C.hm⟩) I.kIn J e (fun z => nomatch z) fun tk => ⟨.bl b, H, I.tok tk, rfl, q⟩
end L2
namespace PySem
namespace ErrV
open PySem.Spec PySem.Calls PyProof.Rows PySem.HandSPX
section
variable {prog : Program} {w : World} {A : Around} {E : Value → Shared → Prop} {R : Result → Shared → Prop} {h : Heap} {g : Array GenState} {d : Drawn} {t : Nat} {os : OsState}
variable {nm q : Str} {C N : Addr} {bs bm bmB : List Value} {hdct : Bool} {sn : List Str} {sub : List Value} {ab : Bool} {col : Option Bool} {dd : Option Addr} {k0 k1 k2 k3 k5 : Option Value} {B newId initId : String}
variable {rest : List Value} {kw : List (Str × Value)} {fI : Addr}

/-- __new__ asks nothing of the keywords -/
theorem asks_new (F : ExcBaseFacts B newId initId bmB) (hT : ∀ X : String, bm.contains (.type X) = bmB.contains (.type X)) {Q : Unit → Shared → Prop} {M : Model}
    (hC : h.get? C = some (excClassObj nm q C N bs bm hdct sn sub ab col dd k0 k1 k2 k3 k5 newId)) (hq : Q () ⟨h, g, d, t, os⟩) :
    wpAny M A (checkBuiltinCall newId ⟨.ref C :: rest, kw⟩) Q E ⟨h, g, d, t, os⟩ := by
  have inB : (Value.ref C :: bm).contains (.type B) = true := by
    rw [List.contains_cons, hT, F.hasB, Bool.or_true]
  have one := F.noStar
  simp only [checkBuiltinCall, F.newKind, F.newSplit, F.newRow]
  repeat (first
    | refine wpAny_loadPart_at hC ?_
    | (refine wpAny_isSubtype_exc hC ?_; rw [inB])
    | refine wpAny_staticBase_exc hC ?_
    | refine wpAny_madeBy_exc hC ?_
    | simp only [bne_self_eq_false, Bool.false_eq_true, if_false]
    | wp_step)
  exact hq
/-- __new__ keeps the arguments by place alone -/
theorem does_new (F : ExcBaseFacts B newId initId bmB) (hT : ∀ X : String, bm.contains (.type X) = bmB.contains (.type X))
    (hC : h.get? C = some (excClassObj nm q C N bs bm hdct sn sub ab col dd k0 k1 k2 k3 k5 newId)) (few : rest.length ≤ sizeLine)
    (hq : R (.ok (.ret (.ref (h.objs.size + 1)))) ⟨(h.push (W.kdv_tup rest)).push (excO C h.objs.size), g, d, t, os⟩) :
    codeAny (model prog w) A (.builtin newId ⟨.ref C :: rest, kw⟩) R ⟨h, g, d, t, os⟩ := by
  have ends := F.ends
  have inB : (Value.ref C :: bm).contains (.type B) = true := by
    rw [List.contains_cons, hT, F.hasB, Bool.or_true]
  have noA : (Value.ref C :: bm).contains (.type "AttributeError") = false := by
    rw [List.contains_cons, hT, F.noAttr]
    rfl
  have noN : (Value.ref C :: bm).contains (.type "NameError") = false := by
    rw [List.contains_cons, hT, F.noName]
    rfl
  refine codeAny_builtinAt F.entry ?_
  unfold Builtin.«BaseException.__new__»
  refine wpAt_bind ?_
  show wpAt _ _ _ (stack >>= _) _ _ _
  refine wpAt_bind (wpAt_stack fun p below => wpAt_of_wpAny ?_)
  wp_walk
  refine wpAt_of_wpAny ?_
  rw [F.owner]
  repeat (first
    | with_reducible refine wpAny_madeHere_exc F.canon hC ?_
    | with_reducible refine wpAny_loadPart_at hC ?_
    | (with_reducible refine wpAny_isSubtype_exc hC ?_
       first | rw [inB] | rw [noA] | rw [noN])
    | wp_step)
  show R _ _
  rw [Heap.size_push]
  exact hq
/-- the class is called: __new__, then its own __init__, both with all that was passed -/
theorem class_call (F : ExcBaseFacts B newId initId bmB) (hT : ∀ X : String, bm.contains (.type X) = bmB.contains (.type X)) {Q : Fin → Shared → Prop}
    (hC : h.get? C = some (excClassObj nm q C N bs bm hdct sn sub ab col dd k0 k1 k2 k3 k5 newId))
    (hi : W.Looks (model prog w) h (typeLookup (.ref C) "__init__") (some (.ref fI))) (hb : ∀ self, W.Looks (model prog w) h (bindSpecial (.ref fI) self) (.ref fI, [self])) (few : rest.length ≤ sizeLine)
    (hq : codeAny (model prog w) A (.call (.ref fI) ⟨.ref (h.objs.size + 1) :: rest, kw⟩)
      (fun r s' => match r with | .ok (.ret v) => v = .none ∧ Q (.done (.ret (.ref (h.objs.size + 1)))) s' | .ok _ => False | .error e => E e s')
      ⟨(h.push (W.kdv_tup rest)).push (excO C h.objs.size), g, d, t, os⟩) :
    wpAny (model prog w) A (Builtin.«type.__call__» ⟨.ref C :: rest, kw⟩) Q E ⟨h, g, d, t, os⟩ := by
  repeat (first
    | with_reducible refine wpAny_loadPart_at hC ?_
    | with_reducible refine wpAny_madeBy_exc hC ?_
    | wp_step)
  refine codeAny_call_builtin_code (Code.quiet_builtin _ F.quiet) (asks_new F hT hC ?_)
  refine does_new F hT hC few ?_
  show wpAny _ _ _ _ _ _
  have kept : ∀ b o, h.get? b = some o → ((h.push (W.kdv_tup rest)).push (excO C h.objs.size)).get? b = some o := fun b o e =>
    Heap.get?_push_of_some _ (Heap.get?_push_of_some _ e)
  have cls' := kept _ _ hC
  have here : ((h.push (W.kdv_tup rest)).push (excO C h.objs.size)).get? (h.objs.size + 1) = some (excO C h.objs.size) := by
    heap_get
  have inC : (Value.ref C :: bm).contains (.ref C) = true := by
    simp
  have look := hi.keeps kept
  have bind := (hb (.ref (h.objs.size + 1))).keeps kept
  unfold isInstance
  repeat (first
    | with_reducible refine wpAny_loadPart_at here ?_
    | (with_reducible refine wpAny_isSubtype_exc cls' ?_
       rw [inC])
    | wp_step)
  show wpAny _ _ (typeLookup (.ref C) _) _ _ _
  refine look.at ?_
  refine wpAny_holding (wpAny_bind (bind.at ?_))
  refine wpAny_bind (wpAny_call (codeAny_mono hq fun r s' z => ?_))
  rcases r with e | (v | _ | _ | _) <;> first
    | exact z
    | exact z.elim
    | skip
  obtain ⟨rfl, z⟩ := z
  first
    | exact wpAny_pure (wpAny_pure z)
    | (wp_walk
       exact z)
theorem call_err (F : ExcBaseFacts B newId initId bmB) (hT : ∀ X : String, bm.contains (.type X) = bmB.contains (.type X))
    (hC : h.get? C = some (excClassObj nm q C N bs bm hdct sn sub ab col dd k0 k1 k2 k3 k5 newId))
    (hi : W.Looks (model prog w) h (typeLookup (.ref C) "__init__") (some (.ref fI))) (hb : ∀ self, W.Looks (model prog w) h (bindSpecial (.ref fI) self) (.ref fI, [self])) (few : rest.length ≤ sizeLine)
    (hq : codeAny (model prog w) (A.under (.builtin "type.__call__" ⟨.ref C :: rest, kw⟩)) (.call (.ref fI) ⟨.ref (h.objs.size + 1) :: rest, kw⟩) (W.InitBack (h.objs.size + 1) R)
      ⟨(h.push (W.kdv_tup rest)).push (excO C h.objs.size), g, d, t, os⟩) :
    codeAny (model prog w) A (.call (.ref C) ⟨rest, kw⟩) R ⟨h, g, d, t, os⟩ := by
  have f1 := tc_lookup
  have f2 := tc_bind (.ref C)
  have isT : (⟨h, g, d, t, os⟩ : Shared).TypeIs (.ref C) "type" := ⟨_, hC, rfl⟩
  refine codeAny_of_tree ?_
  show wpAny _ _ (callAny (.ref C) _) _ _ _
  repeat (any_goals (first
    | assumption
    | with_reducible refine wpAny_loadPart_at hC ?_
    | wp_step))
  refine ⟨rfl, ?_⟩
  refine codeAny_call_builtin_at (Code.quiet_builtin _ (by decide +kernel)) entry_typeCall (wpAny_check_type_call_sub hC (class_call F hT hC hi hb few ?_))
  refine codeAny_mono hq fun r s' z => ?_
  rcases r with e | (v | _ | _ | _) <;> exact z
end
end ErrV
end PySem
namespace L2
open PySem PySem.Spec PyProof.Rows
/-- what the top has written of an error of its own: its class at C, its one field f, its __init__ at fI -/
structure ErrC (K : PySem.W.Frag) (C fI : Addr) (f : Str) (fd : FuncData) : Prop where
  t : OexC K C
  e : ExcC K C
  x : XfC K C
  no : PySem.W.findIn K (.ref C) f = some none
  iC : PySem.W.findIn K (.ref C) "__init__" = some (some (.ref fI))
  tI : PySem.W.typeIn K (.ref fI) = some (.type "function")
  bp : ∀ (s : Shared) (u v : Value), BindsTo s fd ⟨[u, v], []⟩ [("self", u), (f, v)]
  bk : ∀ (s : Shared) (u v : Value), BindsTo s fd ⟨[u], [(f, v)]⟩ [("self", u), (f, v)]
/-- __init__: self.f = what was passed -/
def spErrI (C : Addr) (f : Str) : Sp := fun vs H Q _ => ∃ (a : Addr) (v : V), vs = [.ref a, v] ∧ H a = some (exo a C none) ∧
  ∀ d, H d = none → d ≠ a → Q .non (upd (upd H d (exd d [(f, v)])) a (exo a C (some d)))
section
variable {P : Program} {w : World} {K : PySem.W.Frag} {mg : Str → Option Value} {base : Heap}
theorem ok_errI {C fI : Addr} {f qual : Str} {st : Stmt} {fd : FuncData} {q1 q2 q3 q4 : Pos} (F : Fun K "__init__" qual st fI fd) (Z : ErrC K C fI f fd) (S : FnScope ["self", f] ["self", f] (defScope st))
    (hb : defBody st = [.Assign [.Attribute (.Name "self" q1) f q2] (.Name f q3) q4]) (hd : (f == ("__debug__" : Str)) = false) (hcd : (f == ("__classdict__" : Str)) = false) :
    FnOk P w K mg base CX0 1 fI fd ["self", f] (spErrI C f) := by
  refine F.ok S (fun vs H Q E h => ?_) (fun cdv A outer s H vs Q E hr h => ?_)
  · obtain ⟨a, v, rfl, _⟩ := h
    rfl
  · obtain ⟨a, v, rfl, ha, k⟩ := h
    rw [hb]
    have v0 : Vis (defScope st) "self" := (S.par "self" (List.mem_cons_self ..)).elim .inl fun z => .inr (.inl z)
    have v1 : Vis (defScope st) f := (S.par f (List.mem_cons_of_mem _ (List.mem_cons_self ..))).elim .inl fun z => .inr (.inl z)
    refine ⟨_, pss_one (ps_ost (pe_var (i := 0) (by rfl) v0) (pe_var (i := 1) (by rfl) v1 hd hcd)), ?_⟩
    exact ⟨_, rfl, _, rfl, a, C, rfl, Z.t, Z.no, .inl ⟨ha, fun d n ne => k d n ne⟩⟩
end
/-- C(e) | C(f=e) -/
def tErr (C : Addr) (f : Str) (ta : TA) : TE := fun σ H Q => ta σ H fun vs H1 => ∃ v, vs = [v] ∧ ∀ a d, H1 a = none → H1 d = none → d ≠ a → Q (.ref a) (upd (upd H1 d (exd d [(f, v)])) a (exo a C (some d)))
theorem upd_back {H : Hp} {a d : Addr} {o u z : HO} (ne : d ≠ a) : upd (upd (upd H a o) d u) a z = upd (upd H d u) a z := by
  funext b
  by_cases hb : b = a
  · rw [hb, upd_same, upd_same]
  · rw [upd_ne hb, upd_ne hb]
    by_cases hd : b = d
    · rw [hd, upd_same, upd_same]
    · rw [upd_ne hd, upd_ne hd, upd_ne hb]
section
variable {X : Cx} {C fI : Addr} {f x : Str} {fd : FuncData} {k : Nat} {p pos : Pos} {e : Expr} {es : List Expr} {ta : TA}
theorem run_err {pins : List (Addr × Obj)} {σ : St} {H : Hp} {s : Shared} {Q : VK} {v : V} {u : Value} {us : List Value} {kw : List (Str × Value)} (Z : ErrC X.K C fI f fd) (Gi : FnOk X.prog X.w X.K X.mg X.base CX0 k fI fd ["self", f] (spErrI C f)) (hr : Room (k + 1) X.A)
    (few : us.length ≤ sizeLine) (hb : ∀ (s : Shared) (z : Value), BindsTo s fd ⟨z :: us, kw⟩ [("self", z), (f, u)]) (I : Inv X pins σ H s) (r : RelV v u)
    (h : ∀ a d, H a = none → H d = none → d ≠ a → Q (.ref a) (upd (upd H d (exd d [(f, v)])) a (exo a C (some d)))) : wpAny (model X.prog X.w) X.A (call (.ref C) us kw) (EP X pins σ Q) X.xe s := by
  obtain ⟨nm, q, N, bs, bm, sn, sub, ab, col, dd, k0, k1, k2, k3, k5, hC, hbm⟩ := Z.t.cls
  obtain ⟨hp, g, dr, tk, os⟩ := s
  have up : hp.objs.size ≤ hp.objs.size + 1 := Nat.le_succ _
  have free : H (hp.objs.size + 1) = none := I.hok.fresh up
  have old : ∀ b o, hp.get? b = some o → ((hp.push (PySem.W.kdv_tup us)).push (PySem.HandSPX.excO C hp.objs.size)).get? b = some o := fun b o z =>
    Heap.get?_push_of_some _ (Heap.get?_push_of_some _ z)
  have new : ((hp.push (PySem.W.kdv_tup us)).push (PySem.HandSPX.excO C hp.objs.size)).get? (hp.objs.size + 1) = some (PySem.HandSPX.excO C hp.objs.size) := by
    heap_get
  have J : Inv X pins σ (upd H (hp.objs.size + 1) (exo (hp.objs.size + 1) C none)) ⟨(hp.push (PySem.W.kdv_tup us)).push (PySem.HandSPX.excO C hp.objs.size), g, dr, tk, os⟩ :=
    I.laid (t' := tk) (a := hp.objs.size + 1) (o := exo (hp.objs.size + 1) C none) (h' := (hp.push (PySem.W.kdv_tup us)).push (PySem.HandSPX.excO C hp.objs.size)) old up (exo_ok new)
  have both : Vals [V.ref (hp.objs.size + 1), v] [Value.ref (hp.objs.size + 1), u] := .cons rfl (.cons r .nil)
  have asked : spErrI C f [V.ref (hp.objs.size + 1), v] (upd H (hp.objs.size + 1) (exo (hp.objs.size + 1) C none)) (fun z H2 => z = .non ∧ Q (.ref (hp.objs.size + 1)) H2) (fun _ _ _ => False) := by
    refine ⟨_, v, rfl, upd_same, fun d hd ne => ⟨rfl, ?_⟩⟩
    rw [upd_back ne]
    exact h _ d free (by rw [upd_ne ne] at hd; exact hd) ne
  refine wpAny_call (PySem.ErrV.call_err PySem.F.excBase_ValueError (fun Y => PySem.HandSPX.refsVE_contains Y bm hbm) (I.kIn _ _ hC) (PySem.W.looks_findIn I.kIn Z.iC) (fun self => PySem.W.bind_fn I.kIn self Z.tI) few
    (codeAny_mono (Gi.run _ X.stack _ _ ⟨Value.ref (hp.objs.size + 1) :: us, kw⟩ [Value.ref (hp.objs.size + 1), u] _ _ (fun _ _ _ => False) (hr.make C us kw) (J.env0.make C us kw) (hb _ _) both asked) fun r s' back => ?_))
  cases r with
  | error er => exact pass0 pins σ _ _ er s' J back
  | ok fl =>
    cases fl with
    | ret z =>
      obtain ⟨y, H2, J2, rz, ey, q2⟩ := J.after back
      subst ey
      exact ⟨rz, ⟨V.ref (hp.objs.size + 1), H2, J2, rfl, q2⟩⟩
    | next => exact False.elim back
    | brk => exact False.elim back
    | cont => exact False.elim back
theorem one_few (u : Value) : [u].length ≤ sizeLine := by
  rw [sizeLine_eq]
  show 1 ≤ 16777216
  decide
theorem pe_err (Z : ErrC X.K C fI f fd) (F : FnOk X.prog X.w X.K X.mg X.base CX0 k fI fd ["self", f] (spErrI C f)) (hr : Room (k + 1) X.A) (hm : X.mg x = some (.ref C)) (ha : PA X [e] ta) (hg : Gl X x := by rfl)
    (hdb : (x == ("__debug__" : Str)) = false := by decide) (he : starEach [e] X.env = (false, eval e X.env) :: starEach [] X.env := by rfl) (hpl : (backTo pos (starEach [] X.env)).any (·.1) = false := by rfl) :
    PE X (.Call (.Name x p) [e] [] pos) (tErr C f ta) := by
  refine ⟨fun pins s σ H Q I h => ?_⟩
  refine wpAny_Call_Name_kw (ld_glob I hg hm ?_ hdb)
  refine PySem.W.callWith_K (h₀ := X.base) I.ok.mod.kin Z.t.kC (thn (ha.run pos pins s σ H _ I h) fun us s1 ⟨vs, H1, I1, r1, v, ev, q1⟩ => ⟨I1.kIn, ?_⟩) he hpl
  subst ev
  cases r1 with
  | cons r0 rn =>
    cases rn
    exact run_err Z F hr (one_few _) (fun s z => Z.bp s z _) I1 r0 q1
theorem pe_errK {nm : Option Str} {kp : Pos} {te : TE} (Z : ErrC X.K C fI f fd) (F : FnOk X.prog X.w X.K X.mg X.base CX0 k fI fd ["self", f] (spErrI C f)) (hr : Room (k + 1) X.A) (hm : X.mg x = some (.ref C)) (ha : PE X e te) (hn : nm = some f) (hg : Gl X x := by rfl)
    (hdb : (x == ("__debug__" : Str)) = false := by decide) (hall : (backToKw pos (keywordEach [⟨nm, e, kp⟩] X.env)).all (·.1.isSome) = true := by rfl)
    (hpl : ((backTo pos (starEach [] X.env)).any (·.1) || (backToKw pos (keywordEach [⟨nm, e, kp⟩] X.env)).any (·.1.isNone)) = false := by rfl) :
    PE X (.Call (.Name x p) [] [⟨nm, e, kp⟩] pos) (tErr C f (tCons te tNil)) := by
  subst hn
  refine ⟨fun pins s σ H Q I h => ?_⟩
  refine wpAny_Call_Name_kw (ld_glob I hg hm ?_ hdb)
  refine PySem.W.callWith_KW0 (h₀ := X.base) I.ok.mod.kin Z.t.kC hall (thn ((pk_cons (nm := some f) (kpos := kp) ha pk_nil).run pos pins s σ H _ I h) fun us s1 ⟨vs, H1, I1, r1, v, ev, q1⟩ => ⟨I1.kIn, ?_⟩) hpl
  subst ev
  cases r1 with
  | cons r0 rn =>
    cases rn
    exact run_err Z F hr (by show 0 ≤ sizeLine; exact Nat.zero_le _) (fun s z => Z.bk s z _) I1 r0 q1
/-- e.f -/
def tErrF (C : Addr) (f : Str) (te : TE) : TE := fun σ H Q => te σ H fun x H1 => ∃ (a d : Addr) (fs : List (Str × V)) (v : V), x = .ref a ∧ H1 a = some (exo a C (some d)) ∧ H1 d = some (exd d fs) ∧ fs.lookup f = some v ∧ Q v H1
theorem pe_errF {te : TE} {D : Addr} (T : XfC X.K D) (hno : PySem.W.findIn X.K (.ref D) f = some none) (he : PE X e te) (hb : attributeBase e f X.env (eval e X.env) = eval e X.env := by rfl) : PE X (.Attribute e f pos) (tErrF D f te) := by
  refine ⟨fun pins s σ H Q I h => ?_⟩
  refine attr_of hb (thn (he.run pins s σ H _ I h) fun u s1 ⟨x, H1, I1, rx, a, d, fs, v, ex, ea, ed, l, q⟩ => ?_)
  subst ex
  obtain rfl : u = Value.ref a := rx
  obtain ⟨t1, ho⟩ := exo_at I1.hok ea
  obtain ⟨mA, hns, hr⟩ := exd_at I1.hok ed
  obtain ⟨od, hod, hl⟩ := lookIn_ns hns
  obtain ⟨u, hu, ru⟩ := RelO.some_of (v := v) (o := mA f) (by rw [← l]; exact hr f)
  have J : PySem.W.InstAt s1.heap a _ D (some od) := ⟨ho, rfl, rfl, hod⟩
  exact HandSPX.exc_get I1.kIn J T.ga T.gg T.exC (PySem.W.findObj_own T.hdC hno rfl (by rw [hl, hu])) (handed_of ru) ⟨v, H1, I1.tok _, ru, q⟩
/-- C(), an error without own __init__ -/
theorem pe_exc0 {bmB : List Value} {B newId initId : String} (F : ExcBaseFacts B newId initId bmB) (q : PySem.W.excIn X.K C bmB newId = true) (gC : X.mg x = some (.ref C)) (kC : PySem.W.keepIn X.K (.ref C) = true) (hg : Gl X x := by rfl)
    (hdb : (x == ("__debug__" : Str)) = false := by decide) : PE X (.Call (.Name x p) [] [] pos) (fun σ H Q => ∀ a, H a = none → Q (.ref a) (upd H a (ExO (.ref C) a))) := by
  refine ⟨fun pins s σ H Q I h => ?_⟩
  refine wpAny_Call_Name_kw (ld_glob I hg gC ?_ hdb)
  refine PySem.W.callWith_K0 I.kIn kC ?_
  show wpAny _ _ (call (.ref C) []) _ _ _
  obtain ⟨bm, N, nm, qn, bs, hdct, sn, sub, ab, col, dd, k0, k1, k2, k3, k5, mN, hC, hN, hni, T⟩ := exc_obj I.kIn q
  refine wpAny_call_exc_subT F T hC hN hni (fun h' a hm => ?_) (by show 0 ≤ sizeLine; exact Nat.zero_le _)
  have hn : H a = none := I.hok.gone hm.new
  obtain ⟨t, ht, _, _⟩ := hm.there
  exact ⟨.ref a, upd H a (ExO (.ref C) a), I.laidN hm.keeps hm.new hn (exO_ok ht ⟨rfl, rfl⟩ rfl rfl rfl (show 4 < 6 by decide)), rfl, h a hn⟩
end
end L2
namespace L2
open PySem PySem.Spec PyProof.Rows LamX
theorem clo_nil {cells : List (Str × Addr)} : ∀ {names : List (Str × NameKind)} {acc : List (Str × Addr)}, (∀ y ∈ names, y.2 ≠ .free) → cloFrom cells names acc = acc
  | [], _, _ => rfl
  | (n, k) :: r, acc, h => by
    have hk : (k == NameKind.free) = false := by
      have z := h (n, k) (List.mem_cons_self ..)
      cases k <;> first | rfl | exact absurd rfl z
    unfold cloFrom
    rw [if_neg (by rw [hk]; exact Bool.false_ne_true)]
    exact clo_nil fun y hy => h y (List.mem_cons_of_mem _ hy)
/-- the body of a lambda without captured names, q its name -/
abbrev lamO (q : Str) (params : Arguments) (body : Expr) (scope : Scope) (pm : Value) (c' : Addr) (ctv : Value) : Obj := PySem.W.kla_obj "<lambda>" q params body scope [] pm c' ctv
/-- a lambda stands at f, its code object at c' -/
def LamAt (f c' : Addr) (q : Str) (params : Arguments) (body : Expr) (scope : Scope) : HO := .ext fun h => ∃ pm ctv : Value, h.get? f = some (lamO q params body scope pm c' ctv)
theorem lamAt_ok {P : Program} {w : World} {H : Hp} {h : Heap} {f c' : Addr} {q : Str} {params : Arguments} {body : Expr} {scope : Scope} {pm ctv : Value} (e : h.get? f = some (lamO q params body scope pm c' ctv)) : ObjOk P w H h f (LamAt f c' q params body scope) :=
  ⟨⟨pm, ctv, e⟩, ⟨_, e⟩, fun _ _ ⟨a, b, z⟩ k => ⟨a, b, k _ z⟩⟩
theorem lamAt_get {P : Program} {w : World} {H : Hp} {h : Heap} {f c' : Addr} {q : Str} {params : Arguments} {body : Expr} {scope : Scope} (ok : HOk P w H h) (e : H f = some (LamAt f c' q params body scope)) : ∃ pm ctv : Value, h.get? f = some (lamO q params body scope pm c' ctv) := by
  have z : ObjOk P w H h f (.ext fun h => ∃ pm ctv : Value, h.get? f = some (lamO q params body scope pm c' ctv)) := ok f _ e
  exact z.1
section
variable {X : Cx} {pins : List (Addr × Obj)} {σ : L2.St} {H : Hp} {s : Shared}
/-- a lambda without captured names is made, and tracked -/
theorem lam_laid {T : List (Addr × Str)} {c P : Addr} {params : Arguments} {body : Expr} {scope : Scope} {pos : Pos} {E : Value → Shared → Prop} {Q : Value → Shared → Prop} (I : Inv X pins σ H s) (TB : TabB X.base X.mg c P) (hcode : X.env.code = .ref c)
    (hm : (P, X.env.qual ++ "<lambda>") ∈ T) (hu : ∀ p ∈ T, p.1 = P → p.2 = X.env.qual ++ "<lambda>") (hT : Tabs T H) (hdef : defaultsOf params X.env = ([], [])) (hnf : ∀ y ∈ scope.names, y.2 ≠ .free)
    (h : ∀ (f c' : Addr) (H1 : Hp) (s' : Shared), Inv X pins σ (upd H1 f (LamAt f c' (X.env.qual ++ "<lambda>") params body scope)) s' → ExtN H H1 → Tabs T H1 → H1 f = none → H1 c' = some (CodeO c' (X.env.qual ++ "<lambda>")) → Q (.ref f) s') :
    wpAny (model X.prog X.w) X.A (eval (.Lambda params body scope pos) X.env) Q E s := by
  obtain ⟨ps, hP, ht, ha⟩ := hT _ hm
  have hclo : cloFrom X.env.cells scope.names [] = [] := clo_nil hnf
  have okc : closureFor scope X.env = pure ([] : List (Str × Addr)) := by
    have z := closure_ok (env := X.env) (scope := scope) fun y hy e => absurd e (hnf y hy)
    rw [hclo] at z
    exact z
  refine PySem.W.kla_eval hdef ?_
  have bP : s.heap.BuiltinsAt X.mg P := TB.bm.keeps I.bk
  have hP' : s.heap.get? P = some { cls := .none, data := .fields ps } := I.hok P _ hP
  have lay : ∀ {H1 : Hp} {h' : Heap} {c' : Addr} {pm ctv : Value} {tk : Nat}, Inv X pins σ H1 { s with heap := h', toks := tk } →
      Inv X pins σ (upd H1 h'.objs.size (LamAt h'.objs.size c' (X.env.qual ++ "<lambda>") params body scope)) { s with heap := h'.push (lamO (X.env.qual ++ "<lambda>") params body scope pm c' ctv), toks := tk } := fun {H1 h' c' pm ctv tk} J =>
    J.laid (t' := tk) (a := h'.objs.size) (h' := h'.push (lamO (X.env.qual ++ "<lambda>") params body scope pm c' ctv)) (fun b o e => Heap.get?_push_of_some _ e) (Nat.le_refl _) (lamAt_ok (Heap.get?_push_size _ rfl))
  cases hc : codeAmong pos ps.toList with
  | none =>
    refine PySem.W.kla_makeFunction (mg := X.mg) (c := c) (P := P) (ps := ps) okc I.ok.glob (I.mod.glob.keeps I.bk) hcode (TB.code.keeps I.bk) hP' ht hc TB.gP bP fun c' ctv h' tk hx hge hlt hrec htb => ?_
    obtain ⟨c2, oc, vs, t, e2, hoc, hd, hv⟩ := hrec
    cases e2
    have nC : H c' = none := I.hok.fresh hge
    have I1 := inv_table (q := X.env.qual ++ "<lambda>") (t' := tk) (more := #[rawInt pos.line, rawInt pos.col, .ref c']) (h' := h') I hP hx htb hge ⟨oc, vs, t, hoc, hd, hv⟩
    have hE : ExtN H (upd (upd H P (.tbl (ps ++ #[rawInt pos.line, rawInt pos.col, .ref c']))) c' (CodeO c' (X.env.qual ++ "<lambda>"))) := fun b o e n => by
      rw [upd_ne (ne_of_none e nC), upd_ne (fun z => n ps (Option.some.inj (e.symm.trans (by rw [z]; exact hP))))]
      exact e
    have eL : (ps ++ #[rawInt pos.line, rawInt pos.col, .ref c']).toList = ps.toList ++ [rawInt pos.line, rawInt pos.col, .ref c'] := by simp
    refine h h'.objs.size c' _ _ (lay I1) hE (fun p hp => ?_) ?_ upd_same
    · by_cases hb : p.1 = P
      · rw [hu p hp hb, hb]
        refine ⟨_, by rw [upd_ne (ne_of_none hP nC), upd_same], by rw [eL]; exact PySem.TriplesOk_snoc _ _ _ _ ht, fun p' cv hcv => ?_⟩
        rw [eL] at hcv
        rcases among_app _ ht hcv with z | z
        · obtain ⟨c0, e1, e2⟩ := ha p' cv z
          exact ⟨c0, e1, hE _ _ e2 codeO_ne⟩
        · exact ⟨c', z, upd_same⟩
      · obtain ⟨ps', a1, a2, a3⟩ := hT p hp
        refine ⟨ps', by rw [upd_ne (ne_of_none a1 nC), upd_ne hb]; exact a1, a2, fun p' cv hcv => ?_⟩
        obtain ⟨c0, e1, e2⟩ := a3 p' cv hcv
        exact ⟨c0, e1, hE _ _ e2 codeO_ne⟩
    · have z := I1.hok.fresh (Nat.le_refl h'.objs.size)
      exact z
  | some cv =>
    obtain ⟨c', e, hco⟩ := ha pos cv hc
    subst e
    refine PySem.W.kla_makeFunctionHit (mg := X.mg) (c := c) (P := P) (ps := ps) okc I.ok.glob (I.mod.glob.keeps I.bk) hcode (TB.code.keeps I.bk) hP' ht hc bP fun ctv h' tk hx hsz => ?_
    have I1 : Inv X pins σ H { s with heap := h', toks := tk } := I.kept fun b o e => hx b o e
    exact h h'.objs.size c' H _ (lay I1) (ExtN.refl H) hT (I1.hok.fresh (Nat.le_refl h'.objs.size)) hco
/-- lambda ..: .. as a value -/
theorem pe_lamV {T : List (Addr × Str)} {c P : Addr} {params : Arguments} {body : Expr} {scope : Scope} {pos : Pos} (TB : TabB X.base X.mg c P) (hcode : X.env.code = .ref c)
    (hm : (P, X.env.qual ++ "<lambda>") ∈ T) (hu : ∀ p ∈ T, p.1 = P → p.2 = X.env.qual ++ "<lambda>") (hnf : ∀ y ∈ scope.names, y.2 ≠ .free) (hdef : defaultsOf params X.env = ([], []) := by rfl) :
    PE X (.Lambda params body scope pos) (fun σ H Q => Tabs T H ∧ ∀ f c' H1, ExtN H H1 → Tabs T H1 → H1 f = none → H1 c' = some (CodeO c' (X.env.qual ++ "<lambda>")) → Q (.ref f) (upd H1 f (LamAt f c' (X.env.qual ++ "<lambda>") params body scope))) :=
  ⟨fun pins s σ H Q I h => lam_laid I TB hcode hm hu h.1 hdef hnf fun f c' H1 s' J e1 e2 e3 e4 => ⟨.ref f, _, J, rfl, h.2 f c' H1 e1 e2 e3 e4⟩⟩
end
/-- x(e), x a local name that holds such a lambda of one parameter; tb: what its body reads -/
def tLamC (i : Nat) (y : Str) (q : Str) (params : Arguments) (body : Expr) (scope : Scope) (tb : TE) (ta : TA) : TE := fun σ H Q => ∃ f c', σ[i]? = some (some (.ref f)) ∧ H f = some (LamAt f c' q params body scope) ∧ ta σ H fun vs H1 => ∃ v : V, vs = [v] ∧ H1 f = some (LamAt f c' q params body scope) ∧ H1 c' = some (CodeO c' q) ∧ tb [some v] H1 Q
section
variable {X : Cx} {i k : Nat} {x y q : Str} {params : Arguments} {body : Expr} {scope : Scope} {tb : TE} {ta : TA} {e : Expr} {p pos : Pos}
theorem pe_lamC (S : FnScope [y] [y] scope) (hr : Room (k + 1) X.A) (hN : X.N[i]? = some x) (hv : Vis X.env.scope x)
    (hbind : ∀ (pm : Value) (c' : Addr) (ctv u : Value), bindArgs (PySem.W.kla_fn "<lambda>" q params body scope [] pm (.ref c') ctv) ⟨[u], []⟩ = pure [(y, u)])
    (hbody : ∀ (A : Around) (outer : List Env) (s : Shared) (H : Hp) (f : Addr) (cd : Value), Room k (A.deeper (envOfC q scope s.heap.objs.size f cd)) → PE (cxOf CX0 X.prog X.w X.K X.mg X.base [y] q scope f cd A outer s H E0) body tb)
    (ha : PA X [e] ta) (hd : (x == ("__debug__" : Str)) = false := by decide) (hcd : (x == ("__classdict__" : Str)) = false := by decide)
    (he : starEach [e] X.env = (false, eval e X.env) :: starEach [] X.env := by rfl) (hpl : (backTo pos (starEach [] X.env)).any (·.1) = false := by rfl) :
    PE X (.Call (.Name x p) [e] [] pos) (tLamC i y q params body scope tb ta) := by
  refine ⟨fun pins s σ H Q I h => ?_⟩
  obtain ⟨f, c', hs, hf0, ht⟩ := h
  refine wpAny_Call_Name_kw (thn ((pe_var (pos := p) hN hv hd hcd).run pins s σ H (fun v H1 => v = .ref f ∧ H1 = H) I ⟨.ref f, hs, rfl, rfl⟩) fun u s1 ⟨v, H1, I1, r1, q1⟩ => ?_)
  obtain ⟨ev, eH⟩ := q1
  subst ev
  subst eH
  obtain rfl : u = Value.ref f := r1
  obtain ⟨pm0, ctv0, o0⟩ := lamAt_get I1.hok hf0
  refine PySem.W.callWith_F ⟨_, _, _, _, o0⟩ (thn (ha.run pos pins s1 σ H1 _ I1 ht) fun us s2 ⟨vs, H2, I2, r2, v, ew, hf, hc, q2⟩ => ?_) he hpl
  subst ew
  obtain ⟨pm, ctv, o⟩ := lamAt_get I2.hok hf
  refine ⟨⟨_, _, _, _, o⟩, ?_⟩
  cases r2 with
  | @cons _ u0 _ ur r0 rn =>
    cases rn
    obtain ⟨⟨oc, vs, t, hoc, hdc, hvc⟩, _, _⟩ := I2.hok c' _ hc
    have hkind : ∀ z ∈ [y].zip [u0], scope.names.lookup z.1 = some .local ∨ (scope.names.lookup z.1 = some .cell ∧ ((cellsFrom (s2.heap.objs.size + 1) scope.names []).lookup z.1).isSome = true) := fun ⟨n, w'⟩ hz => by
      rcases S.par n (List.of_mem_zip hz).1 with z | z
      · exact .inl z
      · exact .inr ⟨z, PySem.W.cellsFrom_some _ _ _ (.inl z)⟩
    have rc : codeAny (model X.prog X.w) X.A (.call (.ref f) ⟨[u0], []⟩) (CR CX0 X.stack X.prog X.w H2 s2 Q E0) s2 := by
      refine PySem.W.kla_callFunE hr.depth o rfl S.co S.gen rfl ⟨c', oc, vs, t, rfl, hoc, hdc, hvc⟩ ?_
      rw [hbind]
      refine wpAny_pure (wpAny_newFunctionEnv_cells S.kind hkind fun env he s3 x => ?_)
      subst he
      refine ⟨I2.nolimit.keeps x.toInCall.keep, ?_⟩
      have J : Inv (cxOf CX0 X.prog X.w X.K X.mg X.base [y] q scope f (.ref c') X.A X.stack s2 H2 E0) [] (start [y] [v]) H2 s3 := inv_start S hr.hd I2.env0 rfl (.cons r0 .nil) x
      refine PySem.W.kla_codeExpr (wpAny_mono ((hbody X.A X.stack s2 H2 f (.ref c') (hr.deeper _)).run [] s3 (start [y] [v]) H2 Q J q2) (fun z s' hq => ?_) fun e s' hq => hq)
      obtain ⟨v', H', J', rv, q⟩ := hq
      exact ⟨v', H', J'.os, J'.bare, J'.base, J'.hok, rv, q⟩
    refine wpAny_call (codeAny_mono rc fun r s' back => ?_)
    cases r with
    | error er => exact pass0 pins σ _ _ er s' I2 back
    | ok fl =>
      cases fl with
      | ret z => exact I2.after back
      | next => exact False.elim back
      | brk => exact False.elim back
      | cont => exact False.elim back
end
end L2
namespace K01
open PySem PySem.Spec PyProof.Rows L2 LamX
def top (i : Nat) : Stmt := PySem.Challenge.pw_turnways_k01_errors_made.main.body.getD i (.Pass ⟨0, 0, 0, 0⟩)
abbrev sSource : Stmt := top 18
abbrev sDraw : Stmt := top 19
/-- names that are still the built-ins' -/
structure Blt (mg : Str → Option Value) : Prop where
  len : mg "len" = none
  int : mg "int" = none
  bool : mg "bool" = none
  list : mg "list" = none
  tuple : mg "tuple" = none
  isi : mg "isinstance" = none
  all : mg "all" = none
  zip : mg "zip" = none
  range : mg "range" = none
  min : mg "min" = none
/-- three numbers, the third 0 as yet -/
def spSource (K : PySem.W.Frag) : Sp := fun vs H Q _ => ∃ (a : Addr) (ns : List Int) (i : Nat), vs = [.ref a, .int (i : Int)] ∧ SqL K H a (ns.map V.int) ∧ ns.length ≤ 63 ∧
  ∀ (p : Addr) (x y : Int), H p = none → Q (.ref p) (upd H p (.lst [.int x, .int y, .int 0]))
/-- a number from 0 to below m -/
def spDraw : Sp := fun vs H Q _ => ∃ (p : Addr) (a b c m : Int), vs = [.ref p, .int m] ∧ H p = some (.lst [.int a, .int b, .int c]) ∧ 0 < m ∧ m < 1073741824 ∧
  ∀ r a' b' c' : Int, 0 ≤ r → r < m → Q (.int r) (upd H p (.lst [.int a', .int b', .int c']))
theorem atI_map {ns : List Int} {i : Nat} (h : i < ns.length) : atI (ns.map V.int) (i : Int) = some (.int (ns[i]'h)) := by
  rw [atI_nat]
  rw [List.getElem?_map, List.getElem?_eq_getElem h]
  rfl
section
variable {P : Program} {w : World} {K : PySem.W.Frag} {mg : Str → Option Value} {base : Heap}
theorem scSource : FnScope ["_law_script", "_law_at", "_law_cell"] ["_law_script", "_law_at"] (defScope sSource) := ⟨rfl, rfl, rfl, by decide +kernel, rfl, by decide +kernel, by decide +kernel⟩
theorem ok_source {f : Addr} {fd : FuncData} (F : Fun K "_law_source" "_law_source" sSource f fd) (B : Blt mg) : FnOk P w K mg base CX0 1 f fd ["_law_script", "_law_at"] (spSource K) := by
  refine F.ok scSource (fun vs H Q E h => ?_) (fun cdv A outer s H vs Q E hr h => ?_)
  · obtain ⟨a, ns, i, rfl, _⟩ := h
    rfl
  · obtain ⟨a, ns, i, rfl, hS, hl, k⟩ := h
    refine ⟨_, pss_cons (ps_set (i := 2) scSource.nd rfl (.inl rfl)
        (pe_ifExp (pt_cmpR op_lt (pv 1) (pe_callB call_len_seq (by rfl) B.len PySem.boot_len (pa_cons (pv 0) pa_nil)) (nomark _))
          (pe_ix ix_list (pv 0) (pv 1) (fun _ _ => rfl)) (pe_op op_add (pe_op op_mul pe_int (pv 1)) pe_int)))
      (pss_one (ps_ret (pe_lst (pa_cons (pe_ifExp (pt_cmpR op_ge (pv 2) (pe_op op_pow pe_int pe_int) (nomark _)) (pv 2) pe_int)
        (pa_cons (pe_op op_mod (pe_callTy call_int1 (by rfl) B.int (by decide +kernel) (pa_cons (pv 2) pa_nil)) pe_int) (pa_cons pe_int pa_nil)))))), ?_⟩
    have rest : ∀ z : Int, tRet (tLst (tCons (tIf (tTest (tOp (rI0 fun i j => .bl (decide (j ≤ i))) (tVar 2) (tOp (rI CPow fun i j => .int (i ^ j.toNat)) (tC (.int 10)) (tC (.int 18))))) (tVar 2) (tC (.int 0)))
        (tCons (tOp (rI (fun _ j => 0 < j) fun i j => .int (i % j)) (tCB (fun xs H Q => (∃ i, xs = [.int i] ∧ Q (.int i) H) ∨ ∃ k, xs = [.bl k] ∧ Q (.int (if k then 1 else 0)) H) (tCons (tVar 2) tNil)) (tC (.int 2147483647))) (tCons (tC (.int 0)) tNil))))
        { nx := fun _ H' => Q .non H', rt := Q } [some (.ref a), some (.int (i : Int)), some (.int z)] H := by
      intro z
      refine ⟨_, rfl, _, _, rfl, rfl, ⟨by decide, by decide, by decide⟩, _, _, rfl, rfl, _, rfl, ?_⟩
      refine ite2 (fun _ => ?_) (fun _ => ?_)
      · exact ⟨_, rfl, _, rfl, .inl ⟨_, rfl, _, _, rfl, rfl, by show (0 : Int) < 2147483647; decide, by show 3 ≤ sizeLine; decide, fun p hp => k p _ _ hp⟩⟩
      · exact ⟨_, rfl, .inl ⟨_, rfl, _, _, rfl, rfl, by show (0 : Int) < 2147483647; decide, by show 3 ≤ sizeLine; decide, fun p hp => k p _ _ hp⟩⟩
    refine ⟨_, rfl, _, rfl, a, _, rfl, .inl hS, _, _, rfl, rfl, _, rfl, ?_⟩
    refine ite2 (fun c => ?_) (fun _ => ?_)
    · have hi : i < ns.length := by
        have z := of_decide_eq_true c
        rw [List.length_map] at z
        omega
      exact ⟨_, rfl, _, rfl, a, _, _, _, rfl, rfl, hS, atI_map hi, rest _⟩
    · exact ⟨_, rfl, _, _, rfl, rfl, .inl ⟨by decide, by decide⟩, _, _, rfl, rfl, rest _⟩
theorem scDraw : FnScope ["_law_draws", "_law_many", "_law_found"] ["_law_draws", "_law_many"] (defScope sDraw) := ⟨rfl, rfl, rfl, by decide +kernel, rfl, by decide +kernel, by decide +kernel⟩
theorem ok_draw {f : Addr} {fd : FuncData} (F : Fun K "_law_draw" "_law_draw" sDraw f fd) (B : Blt mg) : FnOk P w K mg base CX0 1 f fd ["_law_draws", "_law_many"] spDraw := by
  refine F.ok scDraw (fun vs H Q E h => ?_) (fun cdv A outer s H vs Q E hr h => ?_)
  · obtain ⟨p, a, b, c, m, rfl, _⟩ := h
    rfl
  · obtain ⟨p, a, b, c, m, rfl, hp, h0, h1, k⟩ := h
    refine ⟨_, pss_cons (ps_if (pt_cmpR op_gt (pe_ix ix_list (pv 0) pe_int (fun _ _ => rfl)) pe_int (nomark _))
        (pss_cons (ps_set (i := 2) scDraw.nd rfl (.inl rfl) (pe_op op_mod (pe_callTy call_int1 (by rfl) B.int (by decide +kernel) (pa_cons (pe_ix ix_list (pv 0) pe_int (fun _ _ => rfl)) pa_nil)) (pv 1)))
        (pss_cons (ps_asg (pe_op op_fdivN (pe_ix ix_list (pv 0) pe_int (fun _ _ => rfl)) (pv 1)) (pg_sub (pv 0) pe_int set_list))
        (pss_one (ps_ret (pv 2))))) pss_nil)
      (pss_cons (ps_asg (pe_op op_add (pe_ix ix_list (pv 0) pe_int (fun _ _ => rfl)) pe_int) (pg_sub (pv 0) pe_int set_list))
      (pss_cons (ps_asg (pe_op op_mod (pe_callTy call_int1 (by rfl) B.int (by decide +kernel) (pa_cons (pe_op op_add (pe_op op_add (pe_op op_mul (pe_ix ix_list (pv 0) pe_int (fun _ _ => rfl)) pe_int) (pe_op op_mul (pe_ix ix_list (pv 0) pe_int (fun _ _ => rfl)) pe_int)) pe_int) pa_nil)) pe_int) (pg_sub (pv 0) pe_int set_list))
      (pss_one (ps_ret (pe_op op_mod (pe_callTy call_int1 (by rfl) B.int (by decide +kernel) (pa_cons (pe_op op_add (pe_op op_fdiv (pe_ix ix_list (pv 0) pe_int (fun _ _ => rfl)) pe_int) (pe_ix ix_list (pv 0) pe_int (fun _ _ => rfl))) pa_nil)) (pv 1)))))), ?_⟩
    have at0 : ∀ x y z : V, atI [x, y, z] 0 = some x := fun _ _ _ => atI_nat (j := 0) rfl
    have at1 : ∀ x y z : V, atI [x, y, z] 1 = some y := fun _ _ _ => atI_nat (j := 1) rfl
    have at2 : ∀ x y z : V, atI [x, y, z] 2 = some z := fun _ _ _ => atI_nat (j := 2) rfl
    refine ⟨_, rfl, p, _, _, _, rfl, rfl, SqL.of hp, at0 _ _ _, _, _, rfl, rfl, _, rfl, ?_⟩
    refine ite2 (fun _ => ?_) (fun _ => ?_)
    · refine ⟨_, rfl, p, _, _, _, rfl, rfl, SqL.of hp, at0 _ _ _, .inl ⟨_, rfl, _, rfl, _, _, rfl, rfl, h0, ?_⟩⟩
      refine ⟨_, rfl, p, _, _, _, rfl, rfl, SqL.of hp, at0 _ _ _, _, rfl, _, _, rfl, rfl, ⟨by omega, by omega⟩, ?_⟩
      refine ⟨_, rfl, p, _, _, 0, rfl, rfl, hp, rfl, ?_⟩
      exact ⟨_, rfl, k _ _ _ _ (Int.emod_nonneg _ (by omega)) (Int.emod_lt_of_pos _ h0)⟩
    · refine ⟨_, rfl, p, _, _, _, rfl, rfl, SqL.of hp, at2 _ _ _, _, _, rfl, rfl, _, rfl, p, _, _, 2, rfl, rfl, hp, rfl, ?_⟩
      refine ⟨_, rfl, p, _, _, _, rfl, rfl, SqL.of upd_same, at1 _ _ _, _, _, rfl, rfl, .inr ⟨by decide, by decide⟩, ?_⟩
      refine ⟨_, rfl, p, _, _, _, rfl, rfl, SqL.of upd_same, at2 _ _ _, _, _, rfl, rfl, .inr ⟨by decide, by decide⟩, ?_⟩
      refine ⟨_, _, rfl, rfl, _, _, rfl, rfl, .inl ⟨_, rfl, _, _, rfl, rfl, by show (0 : Int) < 2147483647; decide, ?_⟩⟩
      refine ⟨_, rfl, p, _, _, 1, rfl, rfl, upd_same, rfl, ?_⟩
      refine ⟨_, rfl, p, _, _, _, rfl, rfl, SqL.of upd_same, at1 _ _ _, _, _, rfl, rfl, ⟨by decide, by decide⟩, ?_⟩
      refine ⟨_, rfl, p, _, _, _, rfl, rfl, SqL.of upd_same, at1 _ _ _, _, _, rfl, rfl, .inl ⟨_, rfl, _, rfl, _, _, rfl, rfl, h0, ?_⟩⟩
      rw [upd_upd]
      exact k _ _ _ _ (Int.emod_nonneg _ (by omega)) (Int.emod_lt_of_pos _ h0)
end
end K01
namespace K01
open PySem PySem.Spec PyProof.Rows L2 LamX
theorem walk_zipT {K : PySem.W.Frag} {a b : Addr} {xs ys : List V} {n : Nat} (hn : n = min xs.length ys.length) : Walk (RZ.ItzT K a b) n (fun H => SqT K H a xs ∧ SqT K H b ys) (YPair (fun i => xs[i]?) (fun i => ys[i]?)) := by
  subst hn
  constructor
  · intro i H hi q
    have h1 : i < xs.length := by omega
    have h2 : i < ys.length := by omega
    exact ⟨xs, ys, xs[i], ys[i], q.1, q.2, by simp [h1], by simp [h2]⟩
  · intro H q
    exact ⟨xs, ys, q.1, q.2, by omega⟩
  · rintro i H v H' _ q ⟨T, x, z, h1, h2, h3, h4, h5⟩
    exact ⟨T, x, z, h1, h2, h3, h4 xs q.1, h5 ys q.2⟩
/-- equal data, of one kind, nested at most n deep -/
inductive Tw (K : PySem.W.Frag) (H : Hp) : Nat → V → V → Prop where
  | non (n : Nat) : Tw K H n .non .non
  | bl (n : Nat) (b : Bool) : Tw K H n (.bl b) (.bl b)
  | int (n : Nat) (i : Int) : Tw K H n (.int i) (.int i)
  | str (n : Nat) (x : Str) : Tw K H n (.str x) (.str x)
  | lst {n : Nat} {a b : Addr} {xs ys : List V} (ha : SqL K H a xs) (hb : SqL K H b ys) (hl : xs.length = ys.length) (few : xs.length ≤ 1000) (each : ∀ (i : Nat) (x y : V), xs[i]? = some x → ys[i]? = some y → Tw K H n x y) : Tw K H (n + 1) (.ref a) (.ref b)
  | tup {n : Nat} {a b : Addr} {xs ys : List V} (ha : SqT K H a xs) (hb : SqT K H b ys) (hl : xs.length = ys.length) (few : xs.length ≤ 1000) (each : ∀ (i : Nat) (x y : V), xs[i]? = some x → ys[i]? = some y → Tw K H n x y) : Tw K H (n + 1) (.ref a) (.ref b)
/-- lists and tuples stand as they stood -/
structure Seqs (K : PySem.W.Frag) (H H' : Hp) : Prop where
  l : ∀ {a : Addr} {xs : List V}, SqL K H a xs → SqL K H' a xs
  t : ∀ {a : Addr} {xs : List V}, SqT K H a xs → SqT K H' a xs
section
variable {K : PySem.W.Frag} {H H' : Hp}
theorem seqT_same {a : Addr} {xs : List V} (e : Same H H') (h : SqT K H a xs) : SqT K H' a xs := by
  rcases h with (h | ⟨o, h⟩) | h
  · exact .inl (.inl (e _ _ h))
  · exact .inl (.inr ⟨o, e _ _ h⟩)
  · exact .inr h
theorem Seqs.of (e : Same H H') : Seqs K H H' := ⟨fun h => e.seq h, fun h => seqT_same e h⟩
theorem Tw.keep {n : Nat} {x y : V} (e : Seqs K H H') (h : Tw K H n x y) : Tw K H' n x y := by
  induction h with
  | non n => exact .non n
  | bl n b => exact .bl n b
  | int n i => exact .int n i
  | str n x => exact .str n x
  | lst ha hb hl few _ ih => exact .lst (e.l ha) (e.l hb) hl few fun i x y h1 h2 => ih i x y h1 h2
  | tup ha hb hl few _ ih => exact .tup (e.t ha) (e.t hb) hl few fun i x y h1 h2 => ih i x y h1 h2
theorem Tw.same {n : Nat} {x y : V} (e : Same H H') (h : Tw K H n x y) : Tw K H' n x y := h.keep (.of e)
theorem same_new {p : Addr} {o : HO} (hp : H p = none) : Same H (upd H p o) := fun b u e => by
  rw [upd_ne (ne_of_none e hp)]
  exact e
theorem tyx_list {a : Addr} {xs : List V} (h : SqL K H a xs) : TyX K H (.ref a) (.type "list") := by
  rcases h with (h | ⟨o, h⟩) | ⟨o, its, n, h, c, _⟩
  · exact .base (.lst h)
  · exact .base (.frz h)
  · exact .kList h c
theorem tyx_tup {a : Addr} {xs : List V} (h : SqT K H a xs) : TyX K H (.ref a) (.type "tuple") := by
  rcases h with (h | ⟨o, h⟩) | ⟨o, its, n, h, c, _⟩
  · exact .base (.tup h)
  · exact .fTuple h
  · exact .kTuple h c
def kitAB (T : String) : List String → Option Bool
  | [] => some false
  | c :: r => match kitB T c with
    | some true => some true
    | some false => kitAB T r
    | none => none
theorem kitA {T : String} {cs : List String} {b : Bool} (h : kitAB T cs = some b) : PySem.W.kitAny K (.type T) (cs.map Value.type) = some b := by
  induction cs with
  | nil => exact h
  | cons c r ih =>
    have e : PySem.W.kitOne K (.type T) (.type c) = kitB T c := rfl
    show (match PySem.W.kitOne K (.type T) (.type c) with | some true => some true | some false => PySem.W.kitAny K (.type T) (r.map Value.type) | none => none) = some b
    rw [e]
    unfold kitAB at h
    cases q : kitB T c with
    | none =>
      rw [q] at h
      cases h
    | some z =>
      rw [q] at h
      cases z with
      | true => exact h
      | false => exact ih h
theorem iteD {c A B : Prop} [Decidable c] (hc : c) (h : A) : if decide c = true then A else B := by
  rw [decide_eq_true hc]
  exact iteT h
end
/-- x is neither a list nor a tuple: what isinstance says of it -/
structure Flat (K : PySem.W.Frag) (x : V) (T : String) (isN : Bool) : Prop where
  ty : ∀ H, TyX K H x (.type T)
  sc : scal x x = true
  seq : kitAB T ["list", "tuple"] = some false
  num : kitAB T ["bool", "int"] = some isN
  int : isN = true → kitB T "int" = some true
  bool : isN = true → ∃ b, kitB T "bool" = some b
  four : isN = false → kitAB T ["bool", "int", "list", "tuple"] = some false
theorem Tw.kinds {K : PySem.W.Frag} {H : Hp} {n : Nat} {x y : V} (h : Tw K H n x y) : (y = x ∧ ∃ T num, Flat K x T num) ∨
    (∃ m a b xs ys, n = m + 1 ∧ x = .ref a ∧ y = .ref b ∧ xs.length = ys.length ∧ xs.length ≤ 1000 ∧ (∀ (i : Nat) (x y : V), xs[i]? = some x → ys[i]? = some y → Tw K H m x y) ∧
      ((SqL K H a xs ∧ SqL K H b ys) ∨ (SqT K H a xs ∧ SqT K H b ys))) := by
  cases h with
  | non => exact .inl ⟨rfl, "NoneType", false, ⟨fun _ => .base .non, rfl, by decide +kernel, by decide +kernel, fun z => (nomatch z), fun z => (nomatch z), fun _ => by decide +kernel⟩⟩
  | bl _ b => exact .inl ⟨rfl, "bool", true, ⟨fun _ => .base (.bl b), rfl, by decide +kernel, by decide +kernel, fun _ => by decide +kernel, fun _ => ⟨true, by decide +kernel⟩, fun z => (nomatch z)⟩⟩
  | int _ i => exact .inl ⟨rfl, "int", true, ⟨fun _ => .base (.int i), rfl, by decide +kernel, by decide +kernel, fun _ => by decide +kernel, fun _ => ⟨false, by decide +kernel⟩, fun z => (nomatch z)⟩⟩
  | str _ s => exact .inl ⟨rfl, "str", false, ⟨fun _ => .base (.str s), rfl, by decide +kernel, by decide +kernel, fun z => (nomatch z), fun z => (nomatch z), fun _ => by decide +kernel⟩⟩
  | lst ha hb hl few each => exact .inr ⟨_, _, _, _, _, rfl, rfl, rfl, hl, few, each, .inl ⟨ha, hb⟩⟩
  | tup ha hb hl few each => exact .inr ⟨_, _, _, _, _, rfl, rfl, rfl, hl, few, each, .inr ⟨ha, hb⟩⟩
theorem two_sz : 2 ≤ sizeLine := by
  rw [sizeLine_eq]
  decide
theorem four_sz : 4 ≤ sizeLine := by
  rw [sizeLine_eq]
  decide
/-- a tuple of names as a comprehension's target -/
theorem pg_tupB {X : Cx} {s : Shared} {H : Hp} {scope : Scope} {env : Env} {fp : List Addr} {es : List Expr} {k n : Nat} {t : TGs} {pos : Pos} (hc : (X.blk s H scope env fp).calm = true) (h : PGs (X.blk s H scope env fp) es t)
    (hn : (assignEach es (X.blk s H scope env fp).env).length = n := by rfl) (hst : (assignEach es (X.blk s H scope env fp).env).findIdx? (·.1) = none := by rfl) : PG (X.blk s H scope env fp) (.Tuple es k pos) (gTup X.K n t) :=
  pg_tup (X := X.blk s H scope env fp) hc h hn hst
/-- the law's own same: True of equal data of one kind -/
def spSame (K : PySem.W.Frag) (n : Nat) : Sp := fun vs H Q _ => ∃ x y : V, vs = [x, y] ∧ Tw K H n x y ∧ ∀ H', Same H H' → Q (.bl true) H'
abbrev sSame : Stmt := top 20
section
variable {P : Program} {w : World} {K : PySem.W.Frag} {mg : Str → Option Value} {base : Heap}
theorem fn_never {f : Addr} {fd : FuncData} {ps : List Str} {k : Nat} : FnOk P w K mg base CX0 k f fd ps (fun _ _ _ _ => False) := ⟨fun _ _ _ _ h => h.elim, fun _ _ _ _ _ _ _ _ _ _ _ _ _ h => h.elim⟩
theorem scSame : FnScope ["_law_found", "_law_due", "_law_left", "_law_right"] ["_law_found", "_law_due"] (defScope sSame) := ⟨rfl, rfl, rfl, by decide +kernel, rfl, by decide +kernel, by decide +kernel⟩
theorem same_body {f : Addr} {fd : FuncData} {n k : Nat} {spR : Sp} (F : Fun K "_law_same" "_law_same" sSame f fd) (B : Blt mg) (hm : mg "_law_same" = some (.ref f)) (bS : Binds K fd ["_law_found", "_law_due"] [])
    (R : FnOk P w K mg base CX0 k f fd ["_law_found", "_law_due"] spR) (hR : ∀ m, n = m + 1 → spR = spSame K m) : FnOk P w K mg base CX0 (k + 1) f fd ["_law_found", "_law_due"] (spSame K n) := by
  refine F.ok scSame (fun vs H Q E h => ?_) (fun cdv A outer s H vs Q E hr h => ?_)
  · obtain ⟨x, y, rfl, _⟩ := h
    rfl
  · obtain ⟨x, y, rfl, hT, kQ⟩ := h
    refine ⟨_, pss_cons (ps_if (pt_val (pe_callB call_isiT (by rfl) B.isi (by decide +kernel) (pa_cons (pv 1) (pa_cons (pe_tup (pa_cons (pe_bltn (v := .ty "list") (by rfl) B.list (by decide +kernel) rfl) (pa_cons (pe_bltn (v := .ty "tuple") (by rfl) B.tuple (by decide +kernel) rfl) pa_nil))) pa_nil))))
        (pss_cons (ps_if (PW.pt (pw_or (pt_cmpR op_ne (pe_callB call_isi (by rfl) B.isi (by decide +kernel) (pa_cons (pv 0) (pa_cons (pe_bltn (v := .ty "list") (by rfl) B.list (by decide +kernel) rfl) pa_nil))) (pe_callB call_isi (by rfl) B.isi (by decide +kernel) (pa_cons (pv 1) (pa_cons (pe_bltn (v := .ty "list") (by rfl) B.list (by decide +kernel) rfl) pa_nil))) (nomark _))
            (pw_or1 (pt_cmpR op_ne (pe_callB call_isi (by rfl) B.isi (by decide +kernel) (pa_cons (pv 0) (pa_cons (pe_bltn (v := .ty "tuple") (by rfl) B.tuple (by decide +kernel) rfl) pa_nil))) (pe_callB call_isi (by rfl) B.isi (by decide +kernel) (pa_cons (pv 1) (pa_cons (pe_bltn (v := .ty "tuple") (by rfl) B.tuple (by decide +kernel) rfl) pa_nil))) (nomark _)))))
          (pss_one (ps_ret pe_bl)) pss_nil)
        (pss_one (ps_ret (pe_and (pe_cmpR op_eq (pe_callB call_len_seq (by rfl) B.len PySem.boot_len (pa_cons (pv 0) pa_nil)) (pe_callB call_len_seq (by rfl) B.len PySem.boot_len (pa_cons (pv 1) pa_nil)) (nomark _))
          (pe_one (pe_callB (cr_all rfl) (by rfl) B.all (by decide +kernel) (pa_cons
            (pe_lc (own := [("_law_left", 2), ("_law_right", 3)]) rfl scSame.nd (RZ.pi_zipA (by rfl) B.zip (pa_cons (pv 0) (pa_cons (pv 1) pa_nil))) (blkOk_by (N := ["_law_found", "_law_due", "_law_left", "_law_right"]) (sc := defScope sSame) (by decide +kernel))
              (fun _ _ _ _ _ => pg_tupB (n := 2) rfl (pgs_cons (pg_name (i := 2) scSame.nd rfl (Or.inl rfl)) (pgs_cons (pg_name (i := 3) scSame.nd rfl (Or.inl rfl)) pgs_nil))) (fun _ _ _ _ _ => pts_nil)
              (fun _ _ _ _ _ => pe_call R hr rfl hm F.kp bS .nil pass0 (pa_cons (pv 2) (pa_cons (pv 3) pa_nil)))) pa_nil)))))))
        pss_nil)
      (pss_cons (ps_if (pt_val (pe_callB call_isiT (by rfl) B.isi (by decide +kernel) (pa_cons (pv 1) (pa_cons (pe_tup (pa_cons (pe_bltn (v := .ty "bool") (by rfl) B.bool (by decide +kernel) rfl) (pa_cons (pe_bltn (v := .ty "int") (by rfl) B.int (by decide +kernel) rfl) pa_nil))) pa_nil))))
        (pss_one (ps_ret (pe_and (pe_callB call_isi (by rfl) B.isi (by decide +kernel) (pa_cons (pv 0) (pa_cons (pe_bltn (v := .ty "int") (by rfl) B.int (by decide +kernel) rfl) pa_nil)))
          (pe_and (pe_cmpR op_eq (pe_callB call_isi (by rfl) B.isi (by decide +kernel) (pa_cons (pv 0) (pa_cons (pe_bltn (v := .ty "bool") (by rfl) B.bool (by decide +kernel) rfl) pa_nil))) (pe_callB call_isi (by rfl) B.isi (by decide +kernel) (pa_cons (pv 1) (pa_cons (pe_bltn (v := .ty "bool") (by rfl) B.bool (by decide +kernel) rfl) pa_nil))) (nomark _))
            (pe_one (pe_cmpR op_eq (pv 0) (pv 1) (nomark _))))))) pss_nil)
      (pss_one (ps_ret (pe_and (pe_not (pe_callB call_isiT (by rfl) B.isi (by decide +kernel) (pa_cons (pv 0) (pa_cons (pe_tup (pa_cons (pe_bltn (v := .ty "bool") (by rfl) B.bool (by decide +kernel) rfl) (pa_cons (pe_bltn (v := .ty "int") (by rfl) B.int (by decide +kernel) rfl) (pa_cons (pe_bltn (v := .ty "list") (by rfl) B.list (by decide +kernel) rfl) (pa_cons (pe_bltn (v := .ty "tuple") (by rfl) B.tuple (by decide +kernel) rfl) pa_nil))))) pa_nil))))
        (pe_one (pe_cmpR op_eq (pv 0) (pv 1) (nomark _))))))), ?_⟩
    rcases hT.kinds with ⟨rfl, T, num, Fl⟩ | ⟨m, a, b, xs, ys, rfl, rfl, rfl, hl, few, each, hs⟩
    · -- neither a list nor a tuple
      refine ⟨_, rfl, two_sz, fun p hp => ?_⟩
      refine ⟨_, p, _, _, [.type "list", .type "tuple"], _, rfl, upd_same, .cons (.ty _) (.cons (.ty _) .nil), Fl.ty _, kitA (cs := ["list", "tuple"]) Fl.seq, _, rfl, ?_⟩
      refine iteF ?_
      refine ⟨_, rfl, two_sz, fun p2 hp2 => ?_⟩
      refine ⟨_, p2, _, _, [.type "bool", .type "int"], _, rfl, upd_same, .cons (.ty _) (.cons (.ty _) .nil), Fl.ty _, kitA (cs := ["bool", "int"]) Fl.num, _, rfl, ?_⟩
      have s2 : Same H (upd (upd H p (.tup [.ty "list", .ty "tuple"])) p2 (.tup [.ty "bool", .ty "int"])) := (same_new hp).trans (same_new hp2)
      cases num with
      | true =>
        refine iteT ?_
        obtain ⟨bb, hbb⟩ := Fl.bool rfl
        refine ⟨_, rfl, _, _, _, _, _, rfl, .ty _, Fl.ty _, kit_ty (Fl.int rfl), _, rfl, ?_⟩
        refine iteT ?_
        refine ⟨_, rfl, _, _, _, _, _, rfl, .ty _, Fl.ty _, kit_ty hbb, _, rfl, _, _, _, _, _, rfl, .ty _, Fl.ty _, kit_ty hbb, rfl, _, rfl, ?_⟩
        refine iteD rfl ?_
        refine ⟨_, rfl, _, rfl, Fl.sc, ?_⟩
        rw [decide_eq_true rfl]
        exact kQ _ s2
      | false =>
        refine iteF ?_
        refine ⟨_, rfl, four_sz, fun p3 hp3 => ?_⟩
        refine ⟨_, p3, _, _, [.type "bool", .type "int", .type "list", .type "tuple"], _, rfl, upd_same, .cons (.ty _) (.cons (.ty _) (.cons (.ty _) (.cons (.ty _) .nil))), Fl.ty _, kitA (cs := ["bool", "int", "list", "tuple"]) (Fl.four rfl), _, rfl, _, rfl, ?_⟩
        refine iteT ?_
        refine ⟨_, rfl, _, rfl, Fl.sc, ?_⟩
        rw [decide_eq_true rfl]
        exact kQ _ (s2.trans (same_new hp3))
    · -- a list or a tuple, both
      have hRm := hR m rfl
      subst hRm
      obtain ⟨T, b1, b2, hTs, e1, e2, tyA, tyB⟩ : ∃ (T : String) (b1 b2 : Bool), kitAB T ["list", "tuple"] = some true ∧ kitB T "list" = some b1 ∧ kitB T "tuple" = some b2 ∧ (∀ H', Same H H' → TyX K H' (.ref a) (.type T)) ∧ (∀ H', Same H H' → TyX K H' (.ref b) (.type T)) := by
        rcases hs with ⟨ha, hb⟩ | ⟨ha, hb⟩
        · exact ⟨"list", true, false, by decide +kernel, by decide +kernel, by decide +kernel, fun H' e => tyx_list (e.seq ha), fun H' e => tyx_list (e.seq hb)⟩
        · exact ⟨"tuple", false, true, by decide +kernel, by decide +kernel, by decide +kernel, fun H' e => tyx_tup (seqT_same e ha), fun H' e => tyx_tup (seqT_same e hb)⟩
      refine ⟨_, rfl, two_sz, fun p hp => ?_⟩
      have s1 : Same H (upd H p (.tup [.ty "list", .ty "tuple"])) := same_new hp
      refine ⟨_, p, _, _, [.type "list", .type "tuple"], _, rfl, upd_same, .cons (.ty _) (.cons (.ty _) .nil), tyB _ s1, kitA (cs := ["list", "tuple"]) hTs, _, rfl, ?_⟩
      refine iteT ?_
      refine ⟨_, rfl, _, _, _, _, _, rfl, .ty _, tyA _ s1, kit_ty e1, _, rfl, _, _, _, _, _, rfl, .ty _, tyB _ s1, kit_ty e1, rfl, _, rfl, ?_⟩
      refine iteNS rfl ?_
      refine ⟨_, rfl, _, _, _, _, _, rfl, .ty _, tyA _ s1, kit_ty e2, _, rfl, _, _, _, _, _, rfl, .ty _, tyB _ s1, kit_ty e2, rfl, _, rfl, ?_⟩
      refine iteNS rfl ?_
      rcases hs with ⟨ha, hb⟩ | ⟨ha, hb⟩
      · refine ⟨_, rfl, a, _, rfl, .inl (s1.seq ha), _, rfl, b, _, rfl, .inl (s1.seq hb), rfl, _, rfl, ?_⟩
        refine iteD (by rw [hl]) ?_
        refine ⟨_, rfl, _, rfl, a, b, xs, ys, rfl, .inl ⟨s1.seq ha, s1.seq hb, fun D hD => ?_⟩⟩
        refine lc_it (walk_zip rfl) (fun i H' => Same (upd H p (.tup [.ty "list", .ty "tuple"])) H' ∧ H' D = some (.lst (List.replicate i (.bl true)))) ⟨same_new hD, upd_same⟩ (fun i H' _ z => ⟨z.1.seq (s1.seq ha), z.1.seq (s1.seq hb)⟩) ?_ ?_
        · rintro i v H' H'' hi ⟨z, hd⟩ ⟨T', x, y, rfl, hT', rfl, hx, hy⟩
          refine ⟨T', [x, y], rfl, SqT.of upd_same, rfl, x, [y], rfl, y, [], rfl, rfl, rfl, ?_⟩
          unfold tYes
          dsimp only
          refine iteT ?_
          refine ⟨_, rfl, _, rfl, x, y, rfl, (each i x y hx hy).same (s1.trans (z.trans (same_new hT'))), fun H4 s4 => ?_⟩
          refine ⟨_, s4 _ _ (same_new hT' _ _ hd), ?_, fun c o e => ?_, ?_⟩
          · rw [List.length_replicate, sizeLine_eq]
            omega
          · rw [upd_ne (ne_of_none e hD)]
            exact s4 c o (same_new hT' c o (z c o e))
          · rw [upd_same, List.replicate_succ']
        · rintro H' ⟨z, hd⟩
          refine ⟨D, List.replicate (min xs.length ys.length) true, rfl, SqL.of (by rw [List.map_replicate]; exact hd), ?_⟩
          have e : (List.replicate (min xs.length ys.length) true).all id = true := by simp
          rw [e]
          exact kQ _ (s1.trans z)
      · refine ⟨_, rfl, a, _, rfl, .inr (seqT_same s1 ha), _, rfl, b, _, rfl, .inr (seqT_same s1 hb), rfl, _, rfl, ?_⟩
        refine iteD (by rw [hl]) ?_
        refine ⟨_, rfl, _, rfl, a, b, xs, ys, rfl, .inr ⟨seqT_same s1 ha, seqT_same s1 hb, fun D hD => ?_⟩⟩
        refine lc_it (walk_zipT rfl) (fun i H' => Same (upd H p (.tup [.ty "list", .ty "tuple"])) H' ∧ H' D = some (.lst (List.replicate i (.bl true)))) ⟨same_new hD, upd_same⟩ (fun i H' _ z => ⟨seqT_same z.1 (seqT_same s1 ha), seqT_same z.1 (seqT_same s1 hb)⟩) ?_ ?_
        · rintro i v H' H'' hi ⟨z, hd⟩ ⟨T', x, y, rfl, hT', rfl, hx, hy⟩
          refine ⟨T', [x, y], rfl, SqT.of upd_same, rfl, x, [y], rfl, y, [], rfl, rfl, rfl, ?_⟩
          unfold tYes
          dsimp only
          refine iteT ?_
          refine ⟨_, rfl, _, rfl, x, y, rfl, (each i x y hx hy).same (s1.trans (z.trans (same_new hT'))), fun H4 s4 => ?_⟩
          refine ⟨_, s4 _ _ (same_new hT' _ _ hd), ?_, fun c o e => ?_, ?_⟩
          · rw [List.length_replicate, sizeLine_eq]
            omega
          · rw [upd_ne (ne_of_none e hD)]
            exact s4 c o (same_new hT' c o (z c o e))
          · rw [upd_same, List.replicate_succ']
        · rintro H' ⟨z, hd⟩
          refine ⟨D, List.replicate (min xs.length ys.length) true, rfl, SqL.of (by rw [List.map_replicate]; exact hd), ?_⟩
          have e : (List.replicate (min xs.length ys.length) true).all id = true := by simp
          rw [e]
          exact kQ _ (s1.trans z)
theorem ok_same {f : Addr} {fd : FuncData} (F : Fun K "_law_same" "_law_same" sSame f fd) (B : Blt mg) (hm : mg "_law_same" = some (.ref f)) (bS : Binds K fd ["_law_found", "_law_due"] []) :
    ∀ n : Nat, FnOk P w K mg base CX0 (n + 1) f fd ["_law_found", "_law_due"] (spSame K n)
  | 0 => same_body (k := 0) F B hm bS fn_never fun m e => nomatch e
  | n + 1 => same_body (k := n + 1) F B hm bS (ok_same F B hm bS n) fun m e => by
    cases e
    rfl
end
end K01
namespace K01
open PySem PySem.Spec PyProof.Rows L2 LamX
abbrev sObj : Stmt := top 21
/-- an object of several sorts; all but the numbers at p stand as they stood -/
def spObj (K : PySem.W.Frag) : Sp := fun vs H Q _ => ∃ (p : Addr) (a b c : Int), vs = [.ref p] ∧ H p = some (.lst [.int a, .int b, .int c]) ∧ ∀ v H', (∀ b o, H b = some o → b ≠ p → H' b = some o) → Tw K H' 2 v v → Q v H'
theorem six_sz : 6 ≤ sizeLine := by
  rw [sizeLine_eq]
  decide
section
variable {P : Program} {w : World} {K : PySem.W.Frag} {mg : Str → Option Value} {base : Heap}
theorem upd_old {G : Hp} {t p : Addr} {o L : HO} (ne : p ≠ t) (e : G t = some o) : upd G p L t = some o := by
  rw [upd_ne (Ne.symm ne)]
  exact e
theorem tw_two {H : Hp} {n : Nat} {t : Addr} {x y : V} (h : H t = some (.tup [x, y])) (h1 : Tw K H n x x) (h2 : Tw K H n y y) : Tw K H (n + 1) (.ref t) (.ref t) :=
  .tup (xs := [x, y]) (ys := [x, y]) (SqT.of h) (SqT.of h) rfl (by decide : 2 ≤ 1000) fun i u v e1 e2 => by
    have e : u = v := Option.some.inj (e1.symm.trans e2)
    subst e
    match i, e1 with
    | 0, e1 =>
      cases e1
      exact h1
    | 1, e1 =>
      cases e1
      exact h2
theorem scObj : FnScope ["_law_draws", "_law_n"] ["_law_draws"] (defScope sObj) := ⟨rfl, rfl, rfl, by decide +kernel, rfl, by decide +kernel, by decide +kernel⟩
theorem ok_obj {f fD : Addr} {fd fdD : FuncData} (F : Fun K "_law_object" "_law_object" sObj f fd) (FD : Fun K "_law_draw" "_law_draw" sDraw fD fdD) (B : Blt mg) (hD : mg "_law_draw" = some (.ref fD)) (bD : Binds K fdD ["_law_draws", "_law_many"] []) :
    FnOk P w K mg base CX0 2 f fd ["_law_draws"] (spObj K) := by
  have GD : FnOk P w K mg base CX0 1 fD fdD ["_law_draws", "_law_many"] spDraw := ok_draw FD B
  refine F.ok scObj (fun vs H Q E h => ?_) (fun cdv A outer s H vs Q E hr h => ?_)
  · obtain ⟨p, a, b, c, rfl, _⟩ := h
    rfl
  · obtain ⟨p, a, b, c, rfl, hp, k⟩ := h
    refine ⟨_, pss_cons (ps_set (i := 1) scObj.nd rfl (.inl rfl) (pe_call GD hr rfl hD FD.kp bD .nil pass0 (pa_cons (pv 0) (pa_cons pe_int pa_nil))))
      (pss_one (ps_ret (pe_ix ix_list (pe_lst (pa_cons (pe_op op_sub (pe_op op_pow pe_int pe_int) (pv 1)) (pa_cons pe_str (pa_cons (pe_tup (pa_cons (pv 1) (pa_cons pe_str pa_nil)))
          (pa_cons pe_non (pa_cons (pe_tup (pa_cons (pe_tup (pa_cons pe_int (pa_cons pe_bl pa_nil))) (pa_cons (pe_tup (pa_cons (pv 1) (pa_cons pe_bl pa_nil))) pa_nil))) (pa_cons (pe_op op_sub pe_int (pv 1)) pa_nil)))))))
        (pe_call GD hr rfl hD FD.kp bD .nil pass0 (pa_cons (pv 0) (pa_cons pe_int pa_nil))) (fun _ _ => rfl)))), ?_⟩
    refine ⟨_, rfl, p, a, b, c, 5, rfl, hp, by decide, by decide, fun r a' b' c' r0 r1 => ?_⟩
    have p1 : (upd H p (.lst [.int a', .int b', .int c'])) p = some (.lst [.int a', .int b', .int c']) := upd_same
    refine ⟨_, _, rfl, rfl, ⟨by decide, by decide, by decide⟩, _, rfl, _, _, rfl, rfl, ?_⟩
    refine ⟨_, rfl, two_sz, fun t1 h1 => ?_⟩
    refine ⟨two_sz, fun t2 h2 => ?_⟩
    refine ⟨_, rfl, two_sz, fun t3 h3 => ?_⟩
    refine ⟨two_sz, fun t4 h4 => ?_⟩
    refine ⟨_, rfl, _, _, rfl, rfl, six_sz, fun l hl => ?_⟩
    have s1 := same_new (o := .tup [.int r, .str "x"]) h1
    have s2 := same_new (o := .tup [.int 1, .bl true]) h2
    have s3 := same_new (o := .tup [.int r, .bl false]) h3
    have s4 := same_new (o := .tup [.ref t2, .ref t3]) h4
    have s5 := same_new (o := .lst [.int (10 ^ (11 : Int).toNat - r), .str "some", .ref t1, .non, .ref t4, .int (0 - r)]) hl
    have n1 := ne_of_none p1 h1
    have n2 := ne_of_none (s1 _ _ p1) h2
    have n3 := ne_of_none (s2 _ _ (s1 _ _ p1)) h3
    have n4 := ne_of_none (s3 _ _ (s2 _ _ (s1 _ _ p1))) h4
    have nl := ne_of_none (s4 _ _ (s3 _ _ (s2 _ _ (s1 _ _ p1)))) hl
    refine ⟨_, rfl, p, a', b', c', 6, rfl, s5 _ _ (s4 _ _ (s3 _ _ (s2 _ _ (s1 _ _ p1)))), by decide, by decide, fun r2 a2 b2 c2 q0 q1 => ?_⟩
    obtain ⟨j, rfl, hj⟩ : ∃ j : Nat, r2 = (j : Int) ∧ j < 6 := ⟨r2.toNat, by omega, by omega⟩
    match j, hj with
    | 0, _ => exact ⟨l, _, _, _, rfl, rfl, SqL.of (upd_old nl upd_same), atI_nat (j := 0) rfl, k _ _ (fun c o e ne => upd_old (Ne.symm ne) (s5 _ _ (s4 _ _ (s3 _ _ (s2 _ _ (s1 _ _ (by rw [upd_ne ne]; exact e))))))) (.int _ _)⟩
    | 1, _ => exact ⟨l, _, _, _, rfl, rfl, SqL.of (upd_old nl upd_same), atI_nat (j := 1) rfl, k _ _ (fun c o e ne => upd_old (Ne.symm ne) (s5 _ _ (s4 _ _ (s3 _ _ (s2 _ _ (s1 _ _ (by rw [upd_ne ne]; exact e))))))) (.str _ _)⟩
    | 2, _ => exact ⟨l, _, _, _, rfl, rfl, SqL.of (upd_old nl upd_same), atI_nat (j := 2) rfl, k _ _ (fun c o e ne => upd_old (Ne.symm ne) (s5 _ _ (s4 _ _ (s3 _ _ (s2 _ _ (s1 _ _ (by rw [upd_ne ne]; exact e))))))) (tw_two (upd_old n1 (s5 _ _ (s4 _ _ (s3 _ _ (s2 _ _ upd_same))))) (.int _ _) (.str _ _))⟩
    | 3, _ => exact ⟨l, _, _, _, rfl, rfl, SqL.of (upd_old nl upd_same), atI_nat (j := 3) rfl, k _ _ (fun c o e ne => upd_old (Ne.symm ne) (s5 _ _ (s4 _ _ (s3 _ _ (s2 _ _ (s1 _ _ (by rw [upd_ne ne]; exact e))))))) (.non _)⟩
    | 4, _ => exact ⟨l, _, _, _, rfl, rfl, SqL.of (upd_old nl upd_same), atI_nat (j := 4) rfl, k _ _ (fun c o e ne => upd_old (Ne.symm ne) (s5 _ _ (s4 _ _ (s3 _ _ (s2 _ _ (s1 _ _ (by rw [upd_ne ne]; exact e))))))) (tw_two (upd_old n4 (s5 _ _ upd_same)) (tw_two (upd_old n2 (s5 _ _ (s4 _ _ (s3 _ _ upd_same)))) (.int _ _) (.bl _ _)) (tw_two (upd_old n3 (s5 _ _ (s4 _ _ upd_same))) (.int _ _) (.bl _ _)))⟩
    | 5, _ => exact ⟨l, _, _, _, rfl, rfl, SqL.of (upd_old nl upd_same), atI_nat (j := 5) rfl, k _ _ (fun c o e ne => upd_old (Ne.symm ne) (s5 _ _ (s4 _ _ (s3 _ _ (s2 _ _ (s1 _ _ (by rw [upd_ne ne]; exact e))))))) (.int _ _)⟩
end
end K01
namespace K01
open PySem PySem.Spec PyProof.Rows L2 LamX
abbrev sKinds : Stmt := top 22
/-- the classes of errors, in the order in which the law asks for them; the 15th is TurnError -/
structure Cls16 (mg : Str → Option Value) (C : Nat → Addr) : Prop where
  c0 : mg "BadLimit" = some (.ref (C 0))
  c1 : mg "BadName" = some (.ref (C 1))
  c2 : mg "BadSize" = some (.ref (C 2))
  c3 : mg "BadStretch" = some (.ref (C 3))
  c4 : mg "BadValue" = some (.ref (C 4))
  c5 : mg "BadWorks" = some (.ref (C 5))
  c6 : mg "Beyond" = some (.ref (C 6))
  c7 : mg "CanNot" = some (.ref (C 7))
  c8 : mg "NoMoment" = some (.ref (C 8))
  c9 : mg "NoStep" = some (.ref (C 9))
  c10 : mg "NoThing" = some (.ref (C 10))
  c11 : mg "NotHeld" = some (.ref (C 11))
  c12 : mg "NotTruth" = some (.ref (C 12))
  c13 : mg "NoWork" = some (.ref (C 13))
  c14 : mg "Held" = some (.ref (C 14))
  c15 : mg "TurnError" = some (.ref (C 15))
/-- each is of its own class alone -/
def Apart (K : PySem.W.Frag) (C : Nat → Addr) : Prop := ∀ i j, i < 15 → j < 15 → PySem.W.kitOne K (.ref (C i)) (.ref (C j)) = some (decide (i = j))
/-- one of the fifteen classes is the error's -/
def spKinds (K : PySem.W.Frag) (C : Nat → Addr) : Sp := fun vs H Q _ => ∃ (a : Addr) (i : Nat), vs = [.ref a] ∧ i < 15 ∧ ErrAt H a (C i) ∧ ExcC K (C i) ∧ ∀ H', Same H H' → Q (.int 1) H'
theorem three_sz : 3 ≤ sizeLine := by
  rw [sizeLine_eq]
  decide
section
variable {P : Program} {w : World} {K : PySem.W.Frag} {mg : Str → Option Value} {base : Heap}
theorem scKinds : FnScope ["_law_e", "_law_found", "_law_is_so"] ["_law_e"] (defScope sKinds) := ⟨rfl, rfl, rfl, by decide +kernel, rfl, by decide +kernel, by decide +kernel⟩
theorem pe_is {X : Cx} {x : Str} {C : Addr} {p1 p2 p3 pos : Pos} {y : Str} (i : Nat) (hi : X.mg "isinstance" = none) (hC : X.mg x = some (.ref C)) (hN : X.N[i]? = some y := by rfl) (hg1 : Gl X "isinstance" := by rfl) (hg : Gl X x := by rfl)
    (hv : Vis X.env.scope y := by first | exact Or.inl rfl | exact Or.inr (Or.inl rfl) | exact Or.inr (Or.inr rfl)) (hd : (x == ("__debug__" : Str)) = false := by decide) (hd2 : (y == ("__debug__" : Str)) = false := by decide) (hd3 : (y == ("__classdict__" : Str)) = false := by decide) 
    (he : starEach [.Name y p2, .Name x p3] X.env = (false, eval (.Name y p2) X.env) :: starEach [.Name x p3] X.env := by rfl) (hpl : (backTo pos (starEach [.Name x p3] X.env)).any (·.1) = false := by rfl)
    (he2 : starEach [.Name x p3] X.env = (false, eval (.Name x p3) X.env) :: starEach [] X.env := by rfl) :
    PE X (.Call (.Name "isinstance" p1) [.Name y p2, .Name x p3] [] pos) (tCB (rIsV X.K) (tCons (tVar i) (tCons (tC (.ref C)) tNil))) :=
  pe_callB call_isV hg1 hi (by decide +kernel) (pa_cons (pe_var hN hv hd2 hd3) (pa_cons (pe_glob (v := .ref C) hg hC rfl hd) pa_nil))
theorem ok_kinds {f : Addr} {fd : FuncData} {C : Nat → Addr} (F : Fun K "_law_kinds" "_law_kinds" sKinds f fd) (B : Blt mg) (Z : Cls16 mg C) (T : Apart K C) : FnOk P w K mg base CX0 1 f fd ["_law_e"] (spKinds K C) := by
  refine F.ok scKinds (fun vs H Q E h => ?_) (fun cdv A outer s H vs Q E hr h => ?_)
  · obtain ⟨a, i, rfl, _⟩ := h
    rfl
  · obtain ⟨a, i, rfl, hi, hE, hX, k⟩ := h
    refine ⟨_, pss_cons (ps_set (i := 1) scKinds.nd rfl (.inl rfl) (pe_lst (pa_cons (pe_is 0 B.isi Z.c0) (pa_cons (pe_is 0 B.isi Z.c1) (pa_cons (pe_is 0 B.isi Z.c2) (pa_cons (pe_is 0 B.isi Z.c3) pa_nil))))))
      (pss_cons (ps_expr (pe_bm PySem.F.plainAttrs_list PySem.F.slot_list_extend PySem.F.type_list_extend mt_extend (pv 1) (pa_cons (pe_lst (pa_cons (pe_is 0 B.isi Z.c4) (pa_cons (pe_is 0 B.isi Z.c5) (pa_cons (pe_is 0 B.isi Z.c6) (pa_cons (pe_is 0 B.isi Z.c7) pa_nil))))) pa_nil)))
      (pss_cons (ps_expr (pe_bm PySem.F.plainAttrs_list PySem.F.slot_list_extend PySem.F.type_list_extend mt_extend (pv 1) (pa_cons (pe_lst (pa_cons (pe_is 0 B.isi Z.c8) (pa_cons (pe_is 0 B.isi Z.c9) (pa_cons (pe_is 0 B.isi Z.c10) (pa_cons (pe_is 0 B.isi Z.c11) pa_nil))))) pa_nil)))
      (pss_cons (ps_expr (pe_bm PySem.F.plainAttrs_list PySem.F.slot_list_extend PySem.F.type_list_extend mt_extend (pv 1) (pa_cons (pe_lst (pa_cons (pe_is 0 B.isi Z.c12) (pa_cons (pe_is 0 B.isi Z.c13) (pa_cons (pe_is 0 B.isi Z.c14) pa_nil)))) pa_nil)))
      (pss_one (ps_ret (pe_callB call_len_seq (by rfl) B.len PySem.boot_len (pa_cons
        (pe_lc (own := [("_law_is_so", 2)]) (g := gName 2) rfl scKinds.nd (pi_list (pv 1)) (blkOk_by (N := ["_law_e", "_law_found", "_law_is_so"]) (sc := defScope sKinds) (by decide +kernel))
          (fun _ _ _ _ _ => pg_name (i := 2) scKinds.nd rfl (Or.inl rfl)) (fun _ _ _ _ _ => pts_one (pt_val (pv 2))) (fun _ _ _ _ _ => pv 2)) pa_nil))))))), ?_⟩
    have q : ∀ j, j < 15 → PySem.W.kitOne K (.ref (C i)) (.ref (C j)) = some (decide (i = j)) := fun j hj => T i j hi hj
    refine ⟨_, rfl, a, _, _, _, _, rfl, hE, hX, .own _, q 0 (by decide), _, rfl, a, _, _, _, _, rfl, hE, hX, .own _, q 1 (by decide), _, rfl, a, _, _, _, _, rfl, hE, hX, .own _, q 2 (by decide), _, rfl, a, _, _, _, _, rfl, hE, hX, .own _, q 3 (by decide), four_sz, fun l hl => ?_⟩
    generalize w1 : upd H l _ = G1
    have s1 : Same H G1 := by
      rw [← w1]
      exact same_new hl
    have g1 : G1 l = some (.lst [V.bl (decide (i = 0)), V.bl (decide (i = 1)), V.bl (decide (i = 2)), V.bl (decide (i = 3))]) := by
      rw [← w1]
      exact upd_same
    refine ⟨_, rfl, .inl ⟨rfl, _, SqL.of g1⟩, _, rfl, a, _, _, _, _, rfl, (hE.same s1), hX, .own _, q 4 (by decide), _, rfl, a, _, _, _, _, rfl, (hE.same s1), hX, .own _, q 5 (by decide), _, rfl, a, _, _, _, _, rfl, (hE.same s1), hX, .own _, q 6 (by decide), _, rfl, a, _, _, _, _, rfl, (hE.same s1), hX, .own _, q 7 (by decide), four_sz, fun l2 hl2 => ?_⟩
    generalize v2 : upd G1 l2 _ = J2
    have t2 : Same G1 J2 := by
      rw [← v2]
      exact same_new hl2
    have j2 : J2 l2 = some (.lst [V.bl (decide (i = 4)), V.bl (decide (i = 5)), V.bl (decide (i = 6)), V.bl (decide (i = 7))]) := by
      rw [← v2]
      exact upd_same
    refine ⟨l, l2, _, _, rfl, rfl, t2 _ _ g1, j2, by show 8 ≤ sizeLine; rw [sizeLine_eq]; decide, ?_⟩
    generalize w2 : upd J2 l _ = G2
    have s2 : Same H G2 := fun b o e => by
      rw [← w2]
      exact upd_old (Ne.symm (ne_of_none e hl)) (t2 b o (s1 b o e))
    have g2 : G2 l = some (.lst [V.bl (decide (i = 0)), V.bl (decide (i = 1)), V.bl (decide (i = 2)), V.bl (decide (i = 3)), V.bl (decide (i = 4)), V.bl (decide (i = 5)), V.bl (decide (i = 6)), V.bl (decide (i = 7))]) := by
      rw [← w2]
      exact upd_same
    refine ⟨_, rfl, .inl ⟨rfl, _, SqL.of g2⟩, _, rfl, a, _, _, _, _, rfl, (hE.same s2), hX, .own _, q 8 (by decide), _, rfl, a, _, _, _, _, rfl, (hE.same s2), hX, .own _, q 9 (by decide), _, rfl, a, _, _, _, _, rfl, (hE.same s2), hX, .own _, q 10 (by decide), _, rfl, a, _, _, _, _, rfl, (hE.same s2), hX, .own _, q 11 (by decide), four_sz, fun l3 hl3 => ?_⟩
    generalize v3 : upd G2 l3 _ = J3
    have t3 : Same G2 J3 := by
      rw [← v3]
      exact same_new hl3
    have j3 : J3 l3 = some (.lst [V.bl (decide (i = 8)), V.bl (decide (i = 9)), V.bl (decide (i = 10)), V.bl (decide (i = 11))]) := by
      rw [← v3]
      exact upd_same
    refine ⟨l, l3, _, _, rfl, rfl, t3 _ _ g2, j3, by show 12 ≤ sizeLine; rw [sizeLine_eq]; decide, ?_⟩
    generalize w3 : upd J3 l _ = G3
    have s3 : Same H G3 := fun b o e => by
      rw [← w3]
      exact upd_old (Ne.symm (ne_of_none e hl)) (t3 b o (s2 b o e))
    have g3 : G3 l = some (.lst [V.bl (decide (i = 0)), V.bl (decide (i = 1)), V.bl (decide (i = 2)), V.bl (decide (i = 3)), V.bl (decide (i = 4)), V.bl (decide (i = 5)), V.bl (decide (i = 6)), V.bl (decide (i = 7)), V.bl (decide (i = 8)), V.bl (decide (i = 9)), V.bl (decide (i = 10)), V.bl (decide (i = 11))]) := by
      rw [← w3]
      exact upd_same
    refine ⟨_, rfl, .inl ⟨rfl, _, SqL.of g3⟩, _, rfl, a, _, _, _, _, rfl, (hE.same s3), hX, .own _, q 12 (by decide), _, rfl, a, _, _, _, _, rfl, (hE.same s3), hX, .own _, q 13 (by decide), _, rfl, a, _, _, _, _, rfl, (hE.same s3), hX, .own _, q 14 (by decide), three_sz, fun l4 hl4 => ?_⟩
    generalize v4 : upd G3 l4 _ = J4
    have t4 : Same G3 J4 := by
      rw [← v4]
      exact same_new hl4
    have j4 : J4 l4 = some (.lst [V.bl (decide (i = 12)), V.bl (decide (i = 13)), V.bl (decide (i = 14))]) := by
      rw [← v4]
      exact upd_same
    refine ⟨l, l4, _, _, rfl, rfl, t4 _ _ g3, j4, by show 15 ≤ sizeLine; rw [sizeLine_eq]; decide, ?_⟩
    generalize w4 : upd J4 l _ = G4
    have s4 : Same H G4 := fun b o e => by
      rw [← w4]
      exact upd_old (Ne.symm (ne_of_none e hl)) (t4 b o (s3 b o e))
    have g4 : G4 l = some (.lst [V.bl (decide (i = 0)), V.bl (decide (i = 1)), V.bl (decide (i = 2)), V.bl (decide (i = 3)), V.bl (decide (i = 4)), V.bl (decide (i = 5)), V.bl (decide (i = 6)), V.bl (decide (i = 7)), V.bl (decide (i = 8)), V.bl (decide (i = 9)), V.bl (decide (i = 10)), V.bl (decide (i = 11)), V.bl (decide (i = 12)), V.bl (decide (i = 13)), V.bl (decide (i = 14))]) := by
      rw [← w4]
      exact upd_same
    have g5 : G4 l = some (.lst ((List.range 15).map fun j => V.bl (decide (i = j)))) := g4
    refine ⟨_, rfl, l, rfl, ⟨_, SqL.of g5⟩, fun D hD => ?_⟩
    refine lc_list (K := K) (a := l) (xs := (List.range 15).map fun j => V.bl (decide (i = j))) (fun t H' => Same G4 H' ∧ H' D = some (.lst (List.replicate ((List.range t).filter fun j => decide (i = j)).length (.bl true))))
      ⟨same_new hD, upd_same⟩ (fun t H' _ z => z.1.seq (SqL.of g5)) ?_ ?_
    · rintro t x H' ht ⟨z, hd⟩
      rw [List.getElem?_map] at ht
      obtain ⟨t', e1, e2⟩ := Option.map_eq_some_iff.mp ht
      have lt : t < 15 := by
        have := (List.getElem?_eq_some_iff.mp e1).1
        rw [List.length_range] at this
        exact this
      rw [List.getElem?_range lt] at e1
      cases e1
      subst e2
      have few := List.length_filter_le (fun j => decide (i = j)) (List.range t)
      rw [List.length_range] at few
      refine ⟨rfl, _, rfl, _, rfl, ?_⟩
      by_cases c : i = t
      · rw [decide_eq_true c]
        refine iteT ?_
        refine ⟨_, rfl, _, hd, ?_, fun b o e => ?_, ?_⟩
        · rw [List.length_replicate, sizeLine_eq]
          omega
        · exact upd_old (Ne.symm (ne_of_none e hD)) (z b o e)
        · rw [upd_same, List.range_succ, List.filter_append, List.length_append]
          have one : ([t].filter fun j => decide (i = j)).length = 1 := by simp [c]
          rw [one, List.replicate_succ']
      · rw [decide_eq_false c]
        refine iteF ⟨z, ?_⟩
        have none' : ([t].filter fun j => decide (i = j)).length = 0 := by simp [c]
        rw [List.range_succ, List.filter_append, List.length_append, none']
        exact hd
    · rintro H' ⟨z, hd⟩
      have all1 : ∀ i, i < 15 → ((List.range ((List.range 15).map fun j => V.bl (decide (i = j))).length).filter fun j => decide (i = j)).length = 1 := by
        intro i hi
        rw [List.length_map, List.length_range]
        revert i
        decide
      rw [all1 i hi] at hd
      exact ⟨D, _, rfl, .inl (SqL.of hd), k _ (s4.trans z)⟩
end
end K01
namespace K01
open PySem PySem.Spec PyProof.Rows L2 LamX
/-- the body of a lambda of the one parameter y reads tb -/
structure LamOk (P : Program) (w : World) (K : PySem.W.Frag) (mg : Str → Option Value) (base : Heap) (k : Nat) (q : Str) (params : Arguments) (body : Expr) (scope : Scope) (y : Str) (tb : TE) : Prop where
  S : FnScope [y] [y] scope
  bind : ∀ (pm : Value) (c' : Addr) (ctv u : Value), bindArgs (PySem.W.kla_fn "<lambda>" q params body scope [] pm (.ref c') ctv) ⟨[u], []⟩ = pure [(y, u)]
  body : ∀ (A : Around) (outer : List Env) (s : Shared) (H : Hp) (f : Addr) (cd : Value), Room k (A.deeper (envOfC q scope s.heap.objs.size f cd)) → PE (cxOf CX0 P w K mg base [y] q scope f cd A outer s H E0) body tb
/-- x(e), x a local name that holds some lambda of one parameter -/
def tLamA (P : Program) (w : World) (K : PySem.W.Frag) (mg : Str → Option Value) (base : Heap) (k i : Nat) (ta : TA) : TE := fun σ H Q => ∃ (f c' : Addr) (q : Str) (params : Arguments) (body : Expr) (scope : Scope) (y : Str) (tb : TE),
  LamOk P w K mg base k q params body scope y tb ∧ tLamC i y q params body scope tb ta σ H Q
theorem pe_lamA {X : Cx} {i k : Nat} {x : Str} {ta : TA} {e : Expr} {p pos : Pos} (hr : Room (k + 1) X.A) (hN : X.N[i]? = some x) (hv : Vis X.env.scope x) (ha : PA X [e] ta) (hd : (x == ("__debug__" : Str)) = false := by decide) (hcd : (x == ("__classdict__" : Str)) = false := by decide)
    (he : starEach [e] X.env = (false, eval e X.env) :: starEach [] X.env := by rfl) (hpl : (backTo pos (starEach [] X.env)).any (·.1) = false := by rfl) : PE X (.Call (.Name x p) [e] [] pos) (tLamA X.prog X.w X.K X.mg X.base k i ta) := by
  refine ⟨fun pins s σ H Q I h => ?_⟩
  obtain ⟨f, c', q, params, body, scope, y, tb, L, hq⟩ := h
  exact (pe_lamC L.S hr hN hv L.bind L.body ha hd hcd he hpl).run pins s σ H Q I hq
/-- all but tables and lists stand as they stood -/
def ExtT (H H' : Hp) : Prop := ∀ b o, H b = some o → (∀ ps, o ≠ .tbl ps) → (∀ xs, o ≠ .lst xs) → H' b = some o
theorem extNt {H H' : Hp} (e : ExtN H H') : ExtT H H' := fun b o h1 h2 _ => e b o h1 h2
theorem ExtT.trans {H H1 H2 : Hp} (a : ExtT H H1) (b : ExtT H1 H2) : ExtT H H2 := fun c o h n m => b c o (a c o h n m) n m
theorem ext_lst {φ : Heap → Prop} (xs : List V) : HO.ext φ ≠ .lst xs := fun z => by cases z
theorem ext_tbl {φ : Heap → Prop} (ps : Array Value) : HO.ext φ ≠ .tbl ps := fun z => by cases z
theorem tabs_but {T : List (Addr × Str)} {H H' : Hp} (t : Tabs T H) (e : ∀ b o, H b = some o → (∀ xs, o ≠ .lst xs) → H' b = some o) : Tabs T H' := fun p hp => by
  obtain ⟨ps, h1, h2, h3⟩ := t p hp
  refine ⟨ps, e _ _ h1 (fun xs z => by cases z), h2, fun pos cv hc => ?_⟩
  obtain ⟨c, e1, e2⟩ := h3 pos cv hc
  exact ⟨c, e1, e _ _ e2 ext_lst⟩
section
variable {P : Program} {w : World} {K : PySem.W.Frag} {mg : Str → Option Value} {base : Heap} {C : Nat → Addr}
/-- two errors of one class that hold v, and a lambda that tells what they hold -/
def Trip (P : Program) (w : World) (K : PySem.W.Frag) (mg : Str → Option Value) (base : Heap) (C : Nat → Addr) (H : Hp) (v : V) (t : Addr) : Prop :=
  ∃ (i : Nat) (f : Str) (e1 d1 e2 d2 g c' : Addr) (q : Str) (params : Arguments) (body : Expr) (scope : Scope) (y : Str), i < 14 ∧ H t = some (.tup [.ref e1, .ref e2, .ref g]) ∧ (H e1 = some (exo e1 (C i) (some d1)) ∧ H d1 = some (exd d1 [(f, v)])) ∧
    (H e2 = some (exo e2 (C i) (some d2)) ∧ H d2 = some (exd d2 [(f, v)])) ∧ (H g = some (LamAt g c' q params body scope) ∧ H c' = some (CodeO c' q)) ∧ LamOk P w K mg base 0 q params body scope y (tErrF (C i) f (tVar 0))
theorem Trip.ext {H H' : Hp} {v : V} {t : Addr} (e : ExtT H H') (h : Trip P w K mg base C H v t) : Trip P w K mg base C H' v t := by
  obtain ⟨i, f, e1, d1, e2, d2, g, c', q, params, body, scope, y, hi, ht, ⟨a1, a2⟩, ⟨b1, b2⟩, ⟨l1, l2⟩, L⟩ := h
  exact ⟨i, f, e1, d1, e2, d2, g, c', q, params, body, scope, y, hi, e _ _ ht (fun _ z => by cases z) (fun _ z => by cases z), ⟨e _ _ a1 ext_tbl ext_lst, e _ _ a2 ext_tbl ext_lst⟩, ⟨e _ _ b1 ext_tbl ext_lst, e _ _ b2 ext_tbl ext_lst⟩, ⟨e _ _ l1 ext_tbl ext_lst, e _ _ l2 ext_tbl ext_lst⟩, L⟩
theorem extN_new {H : Hp} {p : Addr} {o : HO} (hp : H p = none) : ExtN H (upd H p o) := ExtN.of (same_new hp)
/-- the reading of one such display -/
def tTrip (P : Program) (w : World) (K : PySem.W.Frag) (mg : Str → Option Value) (base : Heap) (C : Nat → Addr) (T : List (Addr × Str)) : TE := fun σ H Q => ∃ v, σ[0]? = some (some v) ∧ Tabs T H ∧ ∀ t H', ExtN H H' → Tabs T H' → Trip P w K mg base C H' v t → Q (.ref t) H'
theorem pe_trip {X : Cx} {T : List (Addr × Str)} {c Pt fI : Addr} {i k : Nat} {f x y z : Str} {fd : FuncData} {kw : Option Str} {params : Arguments} {scope : Scope} {p1 p2 p3 p4 p5 p6 p7 p8 p9 p10 p11 : Pos} {kk : Nat}
    (Z : ErrC X.K (C i) fI f fd) (F : FnOk X.prog X.w X.K X.mg X.base CX0 k fI fd ["self", f] (spErrI (C i) f)) (hr : Room (k + 1) X.A) (hi : i < 14) (hm : X.mg x = some (.ref (C i))) 
    (TB : TabB X.base X.mg c Pt) (hcode : X.env.code = .ref c) (hmT : (Pt, X.env.qual ++ "<lambda>") ∈ T) (hu : ∀ p ∈ T, p.1 = Pt → p.2 = X.env.qual ++ "<lambda>")
    (hN : X.N[0]? = some z) (hvz : Vis X.env.scope z) (S : FnScope [y] [y] scope) (hkw : kw = some f)
    (hbind : ∀ (pm : Value) (c' : Addr) (ctv u : Value), bindArgs (PySem.W.kla_fn "<lambda>" (X.env.qual ++ "<lambda>") params (.Attribute (.Name y p8) f p9) scope [] pm (.ref c') ctv) ⟨[u], []⟩ = pure [(y, u)])
    (hg : Gl X x := by rfl) (hdb : (x == ("__debug__" : Str)) = false := by decide) (hz1 : (z == ("__debug__" : Str)) = false := by decide) (hz2 : (z == ("__classdict__" : Str)) = false := by decide) (hy1 : (y == ("__debug__" : Str)) = false := by decide) (hy2 : (y == ("__classdict__" : Str)) = false := by decide)
    (hdef : defaultsOf params X.env = ([], []) := by rfl) :
    PE X (.Tuple [.Call (.Name x p1) [.Name z p2] [] p3, .Call (.Name x p4) [] [⟨kw, .Name z p5, p6⟩] p7, .Lambda params (.Attribute (.Name y p8) f p9) scope p10] kk p11) (tTrip X.prog X.w X.K X.mg X.base C T) := by
  subst hkw
  have vz : ∀ {p : Pos}, PE X (.Name z p) (tVar 0) := fun {p} => pe_var hN hvz hz1 hz2
  have D := pe_tup (X := X) (pos := p11) (x1 := kk) (pa_cons (pe_err (pos := p3) (p := p1) Z F hr hm (pa_cons (vz (p := p2)) pa_nil) hg hdb) (pa_cons (pe_errK (pos := p7) (p := p4) (nm := some f) (kp := p6) Z F hr hm (vz (p := p5)) rfl hg hdb)
    (pa_cons (pe_lamV (params := params) (body := .Attribute (.Name y p8) f p9) (scope := scope) (pos := p10) TB hcode hmT hu S.nofree hdef) pa_nil)))
  refine ⟨fun pins s σ H Q I h => D.run pins s σ H Q I ?_⟩
  obtain ⟨v, hv, hT, k⟩ := h
  refine ⟨v, hv, v, rfl, fun e1 d1 n1 m1 ne1 => ?_⟩
  generalize w1 : upd (upd H d1 (exd d1 [(f, v)])) e1 (exo e1 (C i) (some d1)) = G1
  have s1 : Same H G1 := by
    rw [← w1]
    exact (same_new m1).trans (same_new (by rw [upd_ne (Ne.symm ne1)]; exact n1))
  have a1 : G1 e1 = some (exo e1 (C i) (some d1)) := by
    rw [← w1]
    exact upd_same
  have b1 : G1 d1 = some (exd d1 [(f, v)]) := by
    rw [← w1, upd_ne ne1]
    exact upd_same
  refine ⟨v, hv, v, rfl, fun e2 d2 n2 m2 ne2 => ?_⟩
  generalize w2 : upd (upd G1 d2 (exd d2 [(f, v)])) e2 (exo e2 (C i) (some d2)) = G2
  have s2 : Same G1 G2 := by
    rw [← w2]
    exact (same_new m2).trans (same_new (by rw [upd_ne (Ne.symm ne2)]; exact n2))
  have a2 : G2 e2 = some (exo e2 (C i) (some d2)) := by
    rw [← w2]
    exact upd_same
  have b2 : G2 d2 = some (exd d2 [(f, v)]) := by
    rw [← w2, upd_ne ne2]
    exact upd_same
  refine ⟨hT.ext (s1.trans s2), fun g c' G3 x3 T3 n3 c3 => ?_⟩
  generalize w4 : upd G3 g _ = G4
  have s4 : Same G3 G4 := by
    rw [← w4]
    exact same_new n3
  have a4 : G4 g = some (LamAt g c' (X.env.qual ++ "<lambda>") params (.Attribute (.Name y p8) f p9) scope) := by
    rw [← w4]
    exact upd_same
  refine ⟨three_sz, fun t ht => ?_⟩
  have s5 : Same G4 (upd G4 t (.tup [.ref e1, .ref e2, .ref g])) := same_new ht
  have x5 : ExtN G2 (upd G4 t (.tup [.ref e1, .ref e2, .ref g])) := x3.trans (ExtN.of (s4.trans s5))
  refine k t _ ((ExtN.of (s1.trans s2)).trans x5) (T3.ext (s4.trans s5)) ?_
  refine ⟨i, f, e1, d1, e2, d2, g, c', _, params, _, scope, y, hi, upd_same, ⟨x5 _ _ (s2 _ _ a1) ext_tbl, x5 _ _ (s2 _ _ b1) ext_tbl⟩, ⟨x5 _ _ a2 ext_tbl, x5 _ _ b2 ext_tbl⟩, ⟨s5 _ _ a4, s5 _ _ (s4 _ _ c3)⟩, S, hbind, fun A outer s H f' cd hr' => ?_⟩
  have vy : Vis scope y := (S.par y (List.mem_cons_self ..)).elim .inl fun z => .inr (.inl z)
  exact pe_errF (X := cxOf CX0 X.prog X.w X.K X.mg X.base [y] (X.env.qual ++ "<lambda>") scope f' cd A outer s H E0) (D := C i) Z.x Z.no (pe_var (i := 0) rfl vy hy1 hy2)
end
end K01
namespace K01
open PySem PySem.Spec PyProof.Rows L2 LamX
abbrev sPairs : Stmt := top 23
/-- a def of the text whose code object is known -/
structure FunC (K : PySem.W.Frag) (x qual : Str) (st : Stmt) (f : Addr) (fd : FuncData) (c : Addr) : Prop where
  ex : ∃ (oc : Value) (od : Option Addr) (kV doc pm : Value) (an : Option Addr) (ct : Value) (osl : Array (Option Value)),
    fd = PySem.W.fnOf x qual (defArgs st) (defBody st) (defScope st) .none kV doc pm an (.ref c) ct ∧ K.lookup f = some ⟨oc, od, .func fd, osl⟩ ∧ PySem.W.codeIn K (.ref c) qual = true
  kp : PySem.W.keepIn K (.ref f) = true
section
variable {P : Program} {w : World} {K : PySem.W.Frag} {mg : Str → Option Value} {base : Heap} {C fI : Nat → Addr} {fdI : Nat → FuncData}
theorem FunC.ok {x qual : Str} {st : Stmt} {f c : Addr} {fd : FuncData} {N ps : List Str} {k : Nat} {sp : Sp} (F : FunC K x qual st f fd c) (S : FnScope N ps (defScope st)) (len : ∀ vs H Q E, sp vs H Q E → vs.length = ps.length)
    (hbody : ∀ (A : Around) (outer : List Env) (s : Shared) (H : Hp) (vs : List V) (Q : VK) (E : XK), Room k (A.deeper (envOfC qual (defScope st) s.heap.objs.size f (.ref c))) → sp vs H Q E →
      ∃ t, PSs (cxOf CX0 P w K mg base N qual (defScope st) f (.ref c) A outer s H E).nox (defBody st) t ∧ t { nx := fun _ H' => Q .non H', rt := Q } (L2.start N vs) H) : FnOk P w K mg base CX0 (k + 1) f fd ps sp := by
  obtain ⟨oc, od, kV, doc, pm, an, ct, osl, rfl, lk, hcd⟩ := F.ex
  refine fn_of lk hcd S len fun A outer s H vs Q E hr hsp => ?_
  obtain ⟨t, h, q⟩ := hbody A outer s H vs Q E hr hsp
  exact ⟨t, h.nox, q⟩
/-- the thirteen errors with a field -/
structure Errs (P : Program) (w : World) (K : PySem.W.Frag) (mg : Str → Option Value) (base : Heap) (C fI : Nat → Addr) (fdI : Nat → FuncData) : Prop where
  z0 : ErrC K (C 0) (fI 0) "limit" (fdI 0)
  f0 : FnOk P w K mg base CX0 1 (fI 0) (fdI 0) ["self", "limit"] (spErrI (C 0) "limit")
  z1 : ErrC K (C 1) (fI 1) "name" (fdI 1)
  f1 : FnOk P w K mg base CX0 1 (fI 1) (fdI 1) ["self", "name"] (spErrI (C 1) "name")
  z2 : ErrC K (C 2) (fI 2) "size" (fdI 2)
  f2 : FnOk P w K mg base CX0 1 (fI 2) (fdI 2) ["self", "size"] (spErrI (C 2) "size")
  z3 : ErrC K (C 3) (fI 3) "stretch" (fdI 3)
  f3 : FnOk P w K mg base CX0 1 (fI 3) (fdI 3) ["self", "stretch"] (spErrI (C 3) "stretch")
  z4 : ErrC K (C 4) (fI 4) "value" (fdI 4)
  f4 : FnOk P w K mg base CX0 1 (fI 4) (fdI 4) ["self", "value"] (spErrI (C 4) "value")
  z5 : ErrC K (C 5) (fI 5) "count" (fdI 5)
  f5 : FnOk P w K mg base CX0 1 (fI 5) (fdI 5) ["self", "count"] (spErrI (C 5) "count")
  z7 : ErrC K (C 7) (fI 7) "number" (fdI 7)
  f7 : FnOk P w K mg base CX0 1 (fI 7) (fdI 7) ["self", "number"] (spErrI (C 7) "number")
  z8 : ErrC K (C 8) (fI 8) "moment" (fdI 8)
  f8 : FnOk P w K mg base CX0 1 (fI 8) (fdI 8) ["self", "moment"] (spErrI (C 8) "moment")
  z9 : ErrC K (C 9) (fI 9) "step" (fdI 9)
  f9 : FnOk P w K mg base CX0 1 (fI 9) (fdI 9) ["self", "step"] (spErrI (C 9) "step")
  z10 : ErrC K (C 10) (fI 10) "name" (fdI 10)
  f10 : FnOk P w K mg base CX0 1 (fI 10) (fdI 10) ["self", "name"] (spErrI (C 10) "name")
  z11 : ErrC K (C 11) (fI 11) "lock" (fdI 11)
  f11 : FnOk P w K mg base CX0 1 (fI 11) (fdI 11) ["self", "lock"] (spErrI (C 11) "lock")
  z12 : ErrC K (C 12) (fI 12) "value" (fdI 12)
  f12 : FnOk P w K mg base CX0 1 (fI 12) (fdI 12) ["self", "value"] (spErrI (C 12) "value")
  z13 : ErrC K (C 13) (fI 13) "number" (fdI 13)
  f13 : FnOk P w K mg base CX0 1 (fI 13) (fdI 13) ["self", "number"] (spErrI (C 13) "number")
/-- all thirteen, told in a new list -/
def spPairs (P : Program) (w : World) (K : PySem.W.Frag) (mg : Str → Option Value) (base : Heap) (C : Nat → Addr) (T : List (Addr × Str)) : Sp := fun vs H Q _ => ∃ v, vs = [v] ∧ Tabs T H ∧
  ∀ (l : Addr) (ts : List Addr) (H' : Hp), ExtN H H' → Tabs T H' → H' l = some (.lst (ts.map V.ref)) → ts.length = 13 → (∀ t ∈ ts, Trip P w K mg base C H' v t) → Q (.ref l) H'
/-- the list at l so far: all but tables stand as in H -/
structure Acc (P : Program) (w : World) (K : PySem.W.Frag) (mg : Str → Option Value) (base : Heap) (C : Nat → Addr) (T : List (Addr × Str)) (H G : Hp) (l : Addr) (v : V) (ts : List Addr) : Prop where
  x : ExtN H G
  T : Tabs T G
  nl : ∀ b o, H b = some o → (∀ ps, o ≠ .tbl ps) → b ≠ l
  g : G l = some (.lst (ts.map V.ref))
  r : ∀ t ∈ ts, Trip P w K mg base C G v t
theorem Acc.on {T : List (Addr × Str)} {H G G' : Hp} {l : Addr} {v : V} {ts : List Addr} (A : Acc P w K mg base C T H G l v ts) (e : ExtN G G') (t : Tabs T G') : Acc P w K mg base C T H G' l v ts :=
  ⟨A.x.trans e, t, A.nl, e _ _ A.g (fun _ z => by cases z), fun t ht => (A.r t ht).ext (extNt e)⟩
theorem Acc.new {T : List (Addr × Str)} {H G : Hp} {l p : Addr} {v : V} {ts : List Addr} {o : HO} (A : Acc P w K mg base C T H G l v ts) (hp : G p = none) : Acc P w K mg base C T H (upd G p o) l v ts :=
  A.on (extN_new hp) (A.T.ext (same_new hp))
theorem Acc.put {T : List (Addr × Str)} {H G : Hp} {l : Addr} {v : V} {ts us : List Addr} (A : Acc P w K mg base C T H G l v ts) (h : ∀ t ∈ us, Trip P w K mg base C G v t) : Acc P w K mg base C T H (upd G l (.lst (ts.map V.ref ++ us.map V.ref))) l v (ts ++ us) := by
  have nl : ∀ b o, G b = some o → (∀ xs, o ≠ .lst xs) → b ≠ l := fun b o e n z => by
    rw [z, A.g] at e
    exact n _ (Option.some.inj e).symm
  have ex : ExtT G (upd G l (.lst (ts.map V.ref ++ us.map V.ref))) := fun b o e _ n => upd_old (Ne.symm (nl b o e n)) e
  refine ⟨fun b o e n => upd_old (Ne.symm (A.nl b o e n)) (A.x b o e n), tabs_but A.T fun b o e n => upd_old (Ne.symm (nl b o e n)) e, A.nl, by rw [upd_same, List.map_append], fun t ht => ?_⟩
  rcases List.mem_append.mp ht with z | z
  · exact (A.r t z).ext ex
  · exact (h t z).ext ex
theorem scPairs : FnScope ["_law_a", "_law_found"] ["_law_a"] (defScope sPairs) := ⟨rfl, rfl, rfl, by decide +kernel, rfl, by decide +kernel, by decide +kernel⟩
theorem ok_pairs {f c Pt : Addr} {fd : FuncData} (F : FunC K "_law_pairs" "_law_pairs" sPairs f fd c) (Z : Cls16 mg C) (E1 : Errs P w K mg base C fI fdI) (TB : TabB base mg c Pt) :
    FnOk P w K mg base CX0 3 f fd ["_law_a"] (spPairs P w K mg base C [(Pt, "_law_pairs.<locals>.<lambda>")]) := by
  refine F.ok scPairs (fun vs H Q E h => ?_) (fun A outer s H vs Q E hr h => ?_)
  · obtain ⟨v, rfl, _⟩ := h
    rfl
  · obtain ⟨v, rfl, hT, k⟩ := h
    have hu : ∀ p ∈ [(Pt, ("_law_pairs.<locals>.<lambda>" : Str))], p.1 = Pt → p.2 = "_law_pairs.<locals>.<lambda>" := fun p hp _ => by
      rw [List.mem_singleton.mp hp]
    refine ⟨_, pss_cons (ps_set (i := 1) scPairs.nd rfl (.inl rfl) (pe_lst (pa_cons (pe_trip E1.z5 E1.f5 hr (by decide) Z.c5 TB rfl (List.mem_singleton.mpr rfl) hu rfl (.inl rfl) ⟨rfl, rfl, rfl, by decide +kernel, rfl, by decide +kernel, by decide +kernel⟩ rfl (fun _ _ _ _ => rfl)) (pa_cons (pe_trip E1.z1 E1.f1 hr (by decide) Z.c1 TB rfl (List.mem_singleton.mpr rfl) hu rfl (.inl rfl) ⟨rfl, rfl, rfl, by decide +kernel, rfl, by decide +kernel, by decide +kernel⟩ rfl (fun _ _ _ _ => rfl)) pa_nil))))
      (pss_cons (ps_expr (pe_bm PySem.F.plainAttrs_list PySem.F.slot_list_extend PySem.F.type_list_extend mt_extend (pv 1) (pa_cons (pe_lst (pa_cons (pe_trip E1.z4 E1.f4 hr (by decide) Z.c4 TB rfl (List.mem_singleton.mpr rfl) hu rfl (.inl rfl) ⟨rfl, rfl, rfl, by decide +kernel, rfl, by decide +kernel, by decide +kernel⟩ rfl (fun _ _ _ _ => rfl)) (pa_cons (pe_trip E1.z2 E1.f2 hr (by decide) Z.c2 TB rfl (List.mem_singleton.mpr rfl) hu rfl (.inl rfl) ⟨rfl, rfl, rfl, by decide +kernel, rfl, by decide +kernel, by decide +kernel⟩ rfl (fun _ _ _ _ => rfl)) pa_nil))) pa_nil)))
      (pss_cons (ps_expr (pe_bm PySem.F.plainAttrs_list PySem.F.slot_list_extend PySem.F.type_list_extend mt_extend (pv 1) (pa_cons (pe_lst (pa_cons (pe_trip E1.z0 E1.f0 hr (by decide) Z.c0 TB rfl (List.mem_singleton.mpr rfl) hu rfl (.inl rfl) ⟨rfl, rfl, rfl, by decide +kernel, rfl, by decide +kernel, by decide +kernel⟩ rfl (fun _ _ _ _ => rfl)) (pa_cons (pe_trip E1.z10 E1.f10 hr (by decide) Z.c10 TB rfl (List.mem_singleton.mpr rfl) hu rfl (.inl rfl) ⟨rfl, rfl, rfl, by decide +kernel, rfl, by decide +kernel, by decide +kernel⟩ rfl (fun _ _ _ _ => rfl)) pa_nil))) pa_nil)))
      (pss_cons (ps_expr (pe_bm PySem.F.plainAttrs_list PySem.F.slot_list_extend PySem.F.type_list_extend mt_extend (pv 1) (pa_cons (pe_lst (pa_cons (pe_trip E1.z11 E1.f11 hr (by decide) Z.c11 TB rfl (List.mem_singleton.mpr rfl) hu rfl (.inl rfl) ⟨rfl, rfl, rfl, by decide +kernel, rfl, by decide +kernel, by decide +kernel⟩ rfl (fun _ _ _ _ => rfl)) (pa_cons (pe_trip E1.z13 E1.f13 hr (by decide) Z.c13 TB rfl (List.mem_singleton.mpr rfl) hu rfl (.inl rfl) ⟨rfl, rfl, rfl, by decide +kernel, rfl, by decide +kernel, by decide +kernel⟩ rfl (fun _ _ _ _ => rfl)) pa_nil))) pa_nil)))
      (pss_cons (ps_expr (pe_bm PySem.F.plainAttrs_list PySem.F.slot_list_extend PySem.F.type_list_extend mt_extend (pv 1) (pa_cons (pe_lst (pa_cons (pe_trip E1.z7 E1.f7 hr (by decide) Z.c7 TB rfl (List.mem_singleton.mpr rfl) hu rfl (.inl rfl) ⟨rfl, rfl, rfl, by decide +kernel, rfl, by decide +kernel, by decide +kernel⟩ rfl (fun _ _ _ _ => rfl)) (pa_cons (pe_trip E1.z9 E1.f9 hr (by decide) Z.c9 TB rfl (List.mem_singleton.mpr rfl) hu rfl (.inl rfl) ⟨rfl, rfl, rfl, by decide +kernel, rfl, by decide +kernel, by decide +kernel⟩ rfl (fun _ _ _ _ => rfl)) pa_nil))) pa_nil)))
      (pss_cons (ps_expr (pe_bm PySem.F.plainAttrs_list PySem.F.slot_list_append PySem.F.type_list_append mt_append (pv 1) (pa_cons (pe_trip E1.z8 E1.f8 hr (by decide) Z.c8 TB rfl (List.mem_singleton.mpr rfl) hu rfl (.inl rfl) ⟨rfl, rfl, rfl, by decide +kernel, rfl, by decide +kernel, by decide +kernel⟩ rfl (fun _ _ _ _ => rfl)) pa_nil)))
      (pss_cons (ps_expr (pe_bm PySem.F.plainAttrs_list PySem.F.slot_list_append PySem.F.type_list_append mt_append (pv 1) (pa_cons (pe_trip E1.z3 E1.f3 hr (by decide) Z.c3 TB rfl (List.mem_singleton.mpr rfl) hu rfl (.inl rfl) ⟨rfl, rfl, rfl, by decide +kernel, rfl, by decide +kernel, by decide +kernel⟩ rfl (fun _ _ _ _ => rfl)) pa_nil)))
      (pss_cons (ps_expr (pe_bm PySem.F.plainAttrs_list PySem.F.slot_list_append PySem.F.type_list_append mt_append (pv 1) (pa_cons (pe_trip E1.z12 E1.f12 hr (by decide) Z.c12 TB rfl (List.mem_singleton.mpr rfl) hu rfl (.inl rfl) ⟨rfl, rfl, rfl, by decide +kernel, rfl, by decide +kernel, by decide +kernel⟩ rfl (fun _ _ _ _ => rfl)) pa_nil)))
      (pss_one (ps_ret (pv 1)))))))))), ?_⟩
    refine ⟨v, rfl, hT, fun t1 H1 x1 T1 R1 => ⟨v, rfl, T1, fun t2 H2 x2 T2 R2 => ⟨two_sz, fun l hl => ?_⟩⟩⟩
    have A1 : Acc P w K mg base C [(Pt, "_law_pairs.<locals>.<lambda>")] H (upd H2 l (.lst [.ref t1, .ref t2])) l v [t1, t2] := by
      refine ⟨(x1.trans x2).trans (extN_new hl), T2.ext (same_new hl), fun b o e n => ne_of_none (x2 _ _ (x1 _ _ e n) n) hl, upd_same, fun t ht => ?_⟩
      rcases List.mem_cons.mp ht with rfl | ht
      · exact (R1.ext (extNt x2)).ext (extNt (extN_new hl))
      · rw [List.mem_singleton.mp ht]
        exact R2.ext (extNt (extN_new hl))
    generalize upd H2 l _ = G1 at A1 ⊢
    refine ⟨_, rfl, .inl ⟨rfl, _, SqL.of A1.g⟩, v, rfl, A1.T, fun t3 H3 x3 T3 R3 => ⟨v, rfl, T3, fun t4 H4 x4 T4 R4 => ⟨two_sz, fun l2 hl2 => ?_⟩⟩⟩
    have B2 := ((A1.on x3 T3).on x4 T4).new (o := .lst [.ref t3, .ref t4]) hl2
    refine ⟨l, l2, _, _, rfl, rfl, B2.g, upd_same, by show 4 ≤ sizeLine; rw [sizeLine_eq]; decide, ?_⟩
    generalize w2 : upd (upd H4 l2 _) l _ = G2
    have A2 : Acc P w K mg base C [(Pt, "_law_pairs.<locals>.<lambda>")] H G2 l v ([t1, t2] ++ [t3, t4]) := by
      rw [← w2]
      refine B2.put (us := [t3, t4]) fun t ht => ?_
      rcases List.mem_cons.mp ht with rfl | ht
      · exact (R3.ext (extNt x4)).ext (extNt (extN_new hl2))
      · rw [List.mem_singleton.mp ht]
        exact R4.ext (extNt (extN_new hl2))
    refine ⟨_, rfl, .inl ⟨rfl, _, SqL.of A2.g⟩, v, rfl, A2.T, fun t5 H5 x5 T5 R5 => ⟨v, rfl, T5, fun t6 H6 x6 T6 R6 => ⟨two_sz, fun l3 hl3 => ?_⟩⟩⟩
    have B3 := ((A2.on x5 T5).on x6 T6).new (o := .lst [.ref t5, .ref t6]) hl3
    refine ⟨l, l3, _, _, rfl, rfl, B3.g, upd_same, by show 6 ≤ sizeLine; rw [sizeLine_eq]; decide, ?_⟩
    generalize w3 : upd (upd H6 l3 _) l _ = G3
    have A3 : Acc P w K mg base C [(Pt, "_law_pairs.<locals>.<lambda>")] H G3 l v (([t1, t2] ++ [t3, t4]) ++ [t5, t6]) := by
      rw [← w3]
      refine B3.put (us := [t5, t6]) fun t ht => ?_
      rcases List.mem_cons.mp ht with rfl | ht
      · exact (R5.ext (extNt x6)).ext (extNt (extN_new hl3))
      · rw [List.mem_singleton.mp ht]
        exact R6.ext (extNt (extN_new hl3))
    refine ⟨_, rfl, .inl ⟨rfl, _, SqL.of A3.g⟩, v, rfl, A3.T, fun t7 H7 x7 T7 R7 => ⟨v, rfl, T7, fun t8 H8 x8 T8 R8 => ⟨two_sz, fun l4 hl4 => ?_⟩⟩⟩
    have B4 := ((A3.on x7 T7).on x8 T8).new (o := .lst [.ref t7, .ref t8]) hl4
    refine ⟨l, l4, _, _, rfl, rfl, B4.g, upd_same, by show 8 ≤ sizeLine; rw [sizeLine_eq]; decide, ?_⟩
    generalize w4 : upd (upd H8 l4 _) l _ = G4
    have A4 : Acc P w K mg base C [(Pt, "_law_pairs.<locals>.<lambda>")] H G4 l v ((([t1, t2] ++ [t3, t4]) ++ [t5, t6]) ++ [t7, t8]) := by
      rw [← w4]
      refine B4.put (us := [t7, t8]) fun t ht => ?_
      rcases List.mem_cons.mp ht with rfl | ht
      · exact (R7.ext (extNt x8)).ext (extNt (extN_new hl4))
      · rw [List.mem_singleton.mp ht]
        exact R8.ext (extNt (extN_new hl4))
    refine ⟨_, rfl, .inl ⟨rfl, _, SqL.of A4.g⟩, v, rfl, A4.T, fun t9 H9 x9 T9 R9 => ⟨v, rfl, T9, fun t10 H10 x10 T10 R10 => ⟨two_sz, fun l5 hl5 => ?_⟩⟩⟩
    have B5 := ((A4.on x9 T9).on x10 T10).new (o := .lst [.ref t9, .ref t10]) hl5
    refine ⟨l, l5, _, _, rfl, rfl, B5.g, upd_same, by show 10 ≤ sizeLine; rw [sizeLine_eq]; decide, ?_⟩
    generalize w5 : upd (upd H10 l5 _) l _ = G5
    have A5 : Acc P w K mg base C [(Pt, "_law_pairs.<locals>.<lambda>")] H G5 l v (((([t1, t2] ++ [t3, t4]) ++ [t5, t6]) ++ [t7, t8]) ++ [t9, t10]) := by
      rw [← w5]
      refine B5.put (us := [t9, t10]) fun t ht => ?_
      rcases List.mem_cons.mp ht with rfl | ht
      · exact (R9.ext (extNt x10)).ext (extNt (extN_new hl5))
      · rw [List.mem_singleton.mp ht]
        exact R10.ext (extNt (extN_new hl5))
    refine ⟨_, rfl, .inl ⟨rfl, _, SqL.of A5.g⟩, v, rfl, A5.T, fun t11 H11 x11 T11 R11 => ?_⟩
    have B6 := A5.on x11 T11
    refine ⟨l, _, _, rfl, rfl, B6.g, by show 10 < sizeLine; rw [sizeLine_eq]; decide, ?_⟩
    generalize w6 : upd H11 l _ = G6
    have A6 : Acc P w K mg base C [(Pt, "_law_pairs.<locals>.<lambda>")] H G6 l v ((((([t1, t2] ++ [t3, t4]) ++ [t5, t6]) ++ [t7, t8]) ++ [t9, t10]) ++ [t11]) := by
      rw [← w6]
      refine B6.put (us := [t11]) fun t ht => ?_
      rw [List.mem_singleton.mp ht]
      exact R11
    refine ⟨_, rfl, .inl ⟨rfl, _, SqL.of A6.g⟩, v, rfl, A6.T, fun t12 H12 x12 T12 R12 => ?_⟩
    have B7 := A6.on x12 T12
    refine ⟨l, _, _, rfl, rfl, B7.g, by show 11 < sizeLine; rw [sizeLine_eq]; decide, ?_⟩
    generalize w7 : upd H12 l _ = G7
    have A7 : Acc P w K mg base C [(Pt, "_law_pairs.<locals>.<lambda>")] H G7 l v (((((([t1, t2] ++ [t3, t4]) ++ [t5, t6]) ++ [t7, t8]) ++ [t9, t10]) ++ [t11]) ++ [t12]) := by
      rw [← w7]
      refine B7.put (us := [t12]) fun t ht => ?_
      rw [List.mem_singleton.mp ht]
      exact R12
    refine ⟨_, rfl, .inl ⟨rfl, _, SqL.of A7.g⟩, v, rfl, A7.T, fun t13 H13 x13 T13 R13 => ?_⟩
    have B8 := A7.on x13 T13
    refine ⟨l, _, _, rfl, rfl, B8.g, by show 12 < sizeLine; rw [sizeLine_eq]; decide, ?_⟩
    generalize w8 : upd H13 l _ = G8
    have A8 : Acc P w K mg base C [(Pt, "_law_pairs.<locals>.<lambda>")] H G8 l v ((((((([t1, t2] ++ [t3, t4]) ++ [t5, t6]) ++ [t7, t8]) ++ [t9, t10]) ++ [t11]) ++ [t12]) ++ [t13]) := by
      rw [← w8]
      refine B8.put (us := [t13]) fun t ht => ?_
      rw [List.mem_singleton.mp ht]
      exact R13
    exact ⟨_, rfl, k l _ _ A8.x A8.T A8.g rfl A8.r⟩
end
end K01
namespace K01
open PySem PySem.Spec PyProof.Rows L2 LamX
abbrev sLaw : Stmt := top 24
theorem seqL_extN {K : PySem.W.Frag} {H H' : Hp} {a : Addr} {xs : List V} (e : ExtN H H') (h : SqL K H a xs) : SqL K H' a xs := by
  rcases h with (h | ⟨o, h⟩) | h
  · exact .inl (.inl (e _ _ h (fun _ z => by cases z)))
  · exact .inl (.inr ⟨o, e _ _ h (fun _ z => by cases z)⟩)
  · exact .inr h
theorem seqT_extN {K : PySem.W.Frag} {H H' : Hp} {a : Addr} {xs : List V} (e : ExtN H H') (h : SqT K H a xs) : SqT K H' a xs := by
  rcases h with (h | ⟨o, h⟩) | h
  · exact .inl (.inl (e _ _ h (fun _ z => by cases z)))
  · exact .inl (.inr ⟨o, e _ _ h (fun _ z => by cases z)⟩)
  · exact .inr h
/-- the built-in classes that the law names -/
structure BltE (mg : Str → Option Value) : Prop where
  ve : mg "ValueError" = none
  ex : mg "Exception" = none
  le : mg "LookupError" = none
  re : mg "RuntimeError" = none
/-- what isinstance says of the errors besides -/
structure More (K : PySem.W.Frag) (C : Nat → Addr) : Prop where
  te : ∀ i, i < 14 → PySem.W.kitOne K (.ref (C i)) (.ref (C 15)) = some true
  ve : ∀ i, i < 14 → PySem.W.kitOne K (.ref (C i)) (.type "ValueError") = some true
  hte : PySem.W.kitOne K (.ref (C 14)) (.ref (C 15)) = some false
  hve : PySem.W.kitOne K (.ref (C 14)) (.type "ValueError") = some false
  hex : PySem.W.kitOne K (.ref (C 14)) (.type "Exception") = some true
  hle : PySem.W.kitOne K (.ref (C 14)) (.type "LookupError") = some false
  hre : PySem.W.kitOne K (.ref (C 14)) (.type "RuntimeError") = some false
  asks : ∀ i, i < 15 → ExcC K (C i)
  kC6 : PySem.W.keepIn K (.ref (C 6)) = true
  kC14 : PySem.W.keepIn K (.ref (C 14)) = true
/-- a list of at most 63 numbers is handed in, True comes out -/
def spLaw (K : PySem.W.Frag) (T : List (Addr × Str)) : Sp := fun vs H Q _ => ∃ (a : Addr) (ns : List Int), vs = [.ref a] ∧ SqL K H a (ns.map V.int) ∧ ns.length ≤ 63 ∧ Tabs T H ∧ ∀ H', Q (.bl true) H'
section
variable {P : Program} {w : World} {K : PySem.W.Frag} {mg : Str → Option Value} {base : Heap} {C fI : Nat → Addr} {fdI : Nat → FuncData}
abbrev NL : List Str := ["_law_script", "_law_turn", "_law_draws", "_law_a", "_law_one", "_law_two", "_law_field", "_law_e", "_law_held", "_law_beyond"]
theorem scLaw : FnScope NL ["_law_script"] (defScope sLaw) := ⟨rfl, rfl, rfl, by decide +kernel, rfl, by decide +kernel, by decide +kernel⟩
theorem pe_isB {X : Cx} {T : String} {x y : Str} {p1 p2 p3 pos : Pos} (i : Nat) (hi : X.mg "isinstance" = none) (hT : X.mg x = none) (hv' : bootBuiltins x = some (.type T)) (hN : X.N[i]? = some y := by rfl) (hg1 : Gl X "isinstance" := by rfl) (hg : Gl X x := by rfl)
    (hv : Vis X.env.scope y := by first | exact Or.inl rfl | exact Or.inr (Or.inl rfl) | exact Or.inr (Or.inr rfl)) (hn : x ≠ "__name__" := by decide) (hd : (x == ("__debug__" : Str)) = false := by decide) (hd2 : (y == ("__debug__" : Str)) = false := by decide) (hd3 : (y == ("__classdict__" : Str)) = false := by decide) :
    PE X (.Call (.Name "isinstance" p1) [.Name y p2, .Name x p3] [] pos) (tCB (rIsV X.K) (tCons (tVar i) (tCons (tC (.ty T)) tNil))) :=
  pe_callB call_isV hg1 hi (by decide +kernel) (pa_cons (pe_var hN hv hd2 hd3) (pa_cons (pe_bltn (v := .ty T) hg hT hv' rfl hn hd) pa_nil))
theorem ok_law {f fS fD fQ fO fK fP c Pt : Addr} {fd fdS fdD fdQ fdO fdK fdP : FuncData} (F : Fun K "law" "law" sLaw f fd) (B : Blt mg) (BE : BltE mg) (Z : Cls16 mg C) (E1 : Errs P w K mg base C fI fdI) (TB : TabB base mg c Pt) (Ap : Apart K C) (M : More K C)
    (xB : PySem.W.excIn K (C 6) [.type "ValueError", .type "Exception", .type "BaseException", .type "object"] "ValueError.__new__" = true) (xH : PySem.W.excIn K (C 14) [.type "Exception", .type "BaseException", .type "object"] "Exception.__new__" = true)
    (FS : Fun K "_law_source" "_law_source" sSource fS fdS) (mS : mg "_law_source" = some (.ref fS)) (bS : Binds K fdS ["_law_script", "_law_at"] [])
    (FD : Fun K "_law_draw" "_law_draw" sDraw fD fdD) (mD : mg "_law_draw" = some (.ref fD)) (bD : Binds K fdD ["_law_draws", "_law_many"] [])
    (FQ : Fun K "_law_same" "_law_same" sSame fQ fdQ) (mQ : mg "_law_same" = some (.ref fQ)) (bQ : Binds K fdQ ["_law_found", "_law_due"] [])
    (FO : Fun K "_law_object" "_law_object" sObj fO fdO) (mO : mg "_law_object" = some (.ref fO)) (bO : Binds K fdO ["_law_draws"] [])
    (FK : Fun K "_law_kinds" "_law_kinds" sKinds fK fdK) (mK : mg "_law_kinds" = some (.ref fK)) (bK : Binds K fdK ["_law_e"] [])
    (FP : FunC K "_law_pairs" "_law_pairs" sPairs fP fdP c) (mP : mg "_law_pairs" = some (.ref fP)) (bP : Binds K fdP ["_law_a"] []) :
    FnOk P w K mg base CX0 4 f fd ["_law_script"] (spLaw K [(Pt, "_law_pairs.<locals>.<lambda>")]) := by
  have GS : FnOk P w K mg base CX0 1 fS fdS ["_law_script", "_law_at"] (spSource K) := ok_source FS B
  have GQ : FnOk P w K mg base CX0 3 fQ fdQ ["_law_found", "_law_due"] (spSame K 2) := ok_same FQ B mQ bQ 2
  have GO : FnOk P w K mg base CX0 2 fO fdO ["_law_draws"] (spObj K) := ok_obj FO FD B mD bD
  have GK : FnOk P w K mg base CX0 1 fK fdK ["_law_e"] (spKinds K C) := ok_kinds FK B Z Ap
  have GP : FnOk P w K mg base CX0 3 fP fdP ["_law_a"] (spPairs P w K mg base C [(Pt, "_law_pairs.<locals>.<lambda>")]) := ok_pairs FP Z E1 TB
  refine F.ok scLaw (fun vs H Q E h => ?_) (fun cdv A outer s H vs Q E hr h => ?_)
  · obtain ⟨a, ns, rfl, _⟩ := h
    rfl
  · obtain ⟨sa, ns, rfl, hS, hlen, hT, kQ⟩ := h
    have hr1 : Room 1 _ := hr.mono (by decide)
    have hr2 : Room 2 _ := hr.mono (by decide)
    refine ⟨_, pss_cons (ps_for PassesOwn.never rfl (pi_range1 rfl B.range (pa_cons (pe_op op_add pe_int (pe_callB (call_min2 rfl) (by rfl) B.min (by decide +kernel) (pa_cons (pe_callB call_len_seq (by rfl) B.len PySem.boot_len (pa_cons (pv 0) pa_nil)) (pa_cons pe_int pa_nil)))) pa_nil)) (pg_name (i := 1) scLaw.nd rfl (Or.inl rfl))
        (pss_cons (ps_set (i := 2) scLaw.nd rfl (Or.inl rfl) (pe_call GS hr1 rfl mS FS.kp bS .nil pass0 (pa_cons (pv 0) (pa_cons (pv 1) pa_nil))))
        (pss_cons (ps_set (i := 3) scLaw.nd rfl (Or.inl rfl) (pe_call GO hr2 rfl mO FO.kp bO .nil pass0 (pa_cons (pv 2) pa_nil)))
        (pss_one (ps_for PassesOwn.never rfl (pi_list (pe_call GP hr rfl mP FP.kp bP .nil pass0 (pa_cons (pv 3) pa_nil))) (pg_tup rfl (pgs_cons (pg_name (i := 4) scLaw.nd rfl (Or.inl rfl)) (pgs_cons (pg_name (i := 5) scLaw.nd rfl (Or.inl rfl)) (pgs_cons (pg_name (i := 6) scLaw.nd rfl (Or.inl rfl)) pgs_nil))))
          (pss_one (ps_for PassesOwn.never rfl (pi_tup (pe_tup (pa_cons (pv 4) (pa_cons (pv 5) pa_nil)))) (pg_name (i := 7) scLaw.nd rfl (Or.inl rfl))
            (pss_cons (ps_if (PW.pt (pw_or (pt_not (pt_val (pe_is 7 B.isi Z.c15))) (pw_or (pt_not (pt_val (pe_isB (T := "ValueError") 7 B.isi BE.ve (by decide +kernel)))) (pw_or1 (pt_cmpR op_ne (pe_call GK hr1 rfl mK FK.kp bK .nil pass0 (pa_cons (pv 7) pa_nil)) pe_int (nomark _)))))) (pss_one (ps_ret pe_bl)) pss_nil)
            (pss_one (ps_if (pt_not (pt_val (pe_call GQ hr rfl mQ FQ.kp bQ .nil pass0 (pa_cons (pe_lamA (i := 6) (k := 0) hr1 rfl (.inl rfl) (pa_cons (pv 7) pa_nil)) (pa_cons (pv 3) pa_nil))))) (pss_one (ps_ret pe_bl)) pss_nil))))))))))
      (pss_cons (ps_par (i := 8) (j := 9) rfl scLaw.nd rfl rfl (by decide) rfl rfl (pa_cons (pe_exc0 PySem.F.excBase_Exception xH Z.c14 M.kC14) (pa_cons (pe_exc0 PySem.F.excBase_ValueError xB Z.c6 M.kC6) pa_nil)) (by rfl))
      (pss_cons (ps_if (PW.pt (pw_or (pt_val (pe_is 8 B.isi Z.c15)) (pw_or (pt_val (pe_isB (T := "ValueError") 8 B.isi BE.ve (by decide +kernel))) (pw_or1 (pt_not (pt_val (pe_is 8 B.isi Z.c14))))))) (pss_one (ps_ret pe_bl)) pss_nil)
      (pss_cons (ps_if (PW.pt (pw_or (pt_not (pt_val (pe_isB (T := "Exception") 8 B.isi BE.ex (by decide +kernel)))) (pw_or (pt_val (pe_isB (T := "LookupError") 8 B.isi BE.le (by decide +kernel))) (pw_or1 (pt_val (pe_isB (T := "RuntimeError") 8 B.isi BE.re (by decide +kernel))))))) (pss_one (ps_ret pe_bl)) pss_nil)
      (pss_one (ps_ret (pe_and (pe_is 9 B.isi Z.c15) (pe_and (pe_cmpR op_eq (pe_call GK hr1 rfl mK FK.kp bK .nil pass0 (pa_cons (pv 9) pa_nil)) pe_int (nomark _))
        (pe_one (pe_cmpR op_eq (pe_call GK hr1 rfl mK FK.kp bK .nil pass0 (pa_cons (pv 8) pa_nil)) pe_int (nomark _)))))))))), ?_⟩
    refine ⟨_, rfl, sa, _, rfl, .inl hS, _, _, rfl, _, _, rfl, rfl, _, rfl, ?_, ?_, ?_⟩
    · rw [List.length_map]
      split <;> omega
    · rw [List.length_map]
      split <;> omega
    refine for_range (fun i σ H' => ∃ o1 o2 o3 o4 o5 o6 o7 o8 o9 : Option V, σ = [some (.ref sa), o1, o2, o3, o4, o5, o6, o7, o8, o9] ∧ SqL K H' sa (ns.map V.int) ∧ Tabs [(Pt, "_law_pairs.<locals>.<lambda>")] H')
      ⟨none, none, none, none, none, none, none, none, none, rfl, hS, hT⟩ ?_ ?_
    · rintro i σ H1 hi ⟨o1, o2, o3, o4, o5, o6, o7, o8, o9, rfl, hS1, hT1⟩
      refine ⟨_, rfl, _, rfl, sa, ns, i, (by rw [Int.zero_add]; rfl), hS1, hlen, fun p x y hp => ?_⟩
      generalize w1 : upd H1 p _ = G1
      have s1 : Same H1 G1 := by
        rw [← w1]
        exact same_new hp
      have g1 : G1 p = some (.lst [.int x, .int y, .int 0]) := by
        rw [← w1]
        exact upd_same
      refine ⟨_, rfl, p, x, y, 0, rfl, g1, fun v G2 old tw => ?_⟩
      have s2 : Same H1 G2 := fun b o e => old b o (s1 b o e) (ne_of_none e hp)
      refine ⟨_, rfl, v, rfl, hT1.ext s2, fun l ts G3 x3 T3 g3 len3 R3 => ?_⟩
      have S3 : SqL K G3 sa (ns.map V.int) := seqL_extN x3 (s2.seq hS1)
      have tw3 : Tw K G3 2 v v := tw.keep ⟨fun h => seqL_extN x3 h, fun h => seqT_extN x3 h⟩
      refine ⟨l, rfl, ⟨_, SqL.of g3⟩, ?_⟩
      refine for_list (K := K) (a := l) (xs := ts.map V.ref) (fun j σ H' => ∃ q4 q5 q6 q7 : Option V, σ = [some (.ref sa), some (.int (0 + (i : Int))), some (.ref p), some v, q4, q5, q6, q7, o8, o9] ∧ Same G3 H')
        ⟨_, _, _, _, rfl, Same.refl _⟩ (fun j σ H' _ ⟨_, _, _, _, _, z⟩ => z.seq (SqL.of g3)) ?_ ?_
      · rintro j x σ H4 hx ⟨q4, q5, q6, q7, rfl, s4⟩
        obtain ⟨t, ht, rfl⟩ : ∃ t, t ∈ ts ∧ x = V.ref t := by
          rw [List.getElem?_map] at hx
          obtain ⟨t, h1, h2⟩ := Option.map_eq_some_iff.mp hx
          exact ⟨t, List.mem_of_getElem? h1, h2.symm⟩
        obtain ⟨ix, f', e1, d1, e2, d2, g, c', q, params, body, scope, y, hix, ht', ⟨a1, b1⟩, ⟨a2, b2⟩, ⟨l1, l2⟩, L⟩ := (R3 t ht).ext (extNt (ExtN.of s4))
        refine ⟨t, _, rfl, SqT.of ht', rfl, _, _, rfl, _, _, rfl, _, _, rfl, rfl, ?_⟩
        refine ⟨_, rfl, _, rfl, two_sz, fun tp htp => ⟨tp, rfl, ⟨_, SqT.of upd_same⟩, ?_⟩⟩
        refine for_tup (K := K) (a := tp) (xs := [.ref e1, .ref e2]) (fun m σ H5 => ∃ q7 : Option V, σ = [some (.ref sa), some (.int (0 + (i : Int))), some (.ref p), some v, some (.ref e1), some (.ref e2), some (.ref g), q7, o8, o9] ∧ Same (upd H4 tp (.tup [.ref e1, .ref e2])) H5)
          ⟨_, rfl, Same.refl _⟩ (fun m σ H5 _ ⟨_, _, z⟩ => SqT.of (z _ _ upd_same)) ?_ ?_
        · rintro m x σ H5 hx ⟨q7, rfl, s5⟩
          have s45 : Same H4 H5 := (same_new htp).trans s5
          obtain ⟨e, d, rfl, he, hd⟩ : ∃ e d, x = V.ref e ∧ H5 e = some (exo e (C ix) (some d)) ∧ H5 d = some (exd d [(f', v)]) := by
            match m, hx with
            | 0, hx =>
              cases hx
              exact ⟨e1, d1, rfl, s45 _ _ a1, s45 _ _ b1⟩
            | 1, hx =>
              cases hx
              exact ⟨e2, d2, rfl, s45 _ _ a2, s45 _ _ b2⟩
          have hE : ErrAt H5 e (C ix) := .inl ⟨d, _, he, hd⟩
          have ask := M.asks ix (by omega)
          refine ⟨_, rfl, e, _, _, _, _, rfl, hE, ask, .own _, M.te ix hix, _, rfl, ?_⟩
          refine iteF ?_
          refine ⟨_, rfl, e, _, _, _, _, rfl, hE, ask, .ty _, M.ve ix hix, _, rfl, ?_⟩
          refine iteF ?_
          refine ⟨_, rfl, e, ix, rfl, by omega, hE, ask, fun H6 s6 => ⟨rfl, _, rfl, ?_⟩⟩
          refine iteNS rfl ?_
          refine ⟨g, c', q, params, body, scope, y, _, L, g, c', rfl, s6 _ _ (s45 _ _ l1), _, rfl, _, rfl, s6 _ _ (s45 _ _ l1), s6 _ _ (s45 _ _ l2), ?_⟩
          refine ⟨_, rfl, e, d, _, v, rfl, s6 _ _ he, s6 _ _ hd, by simp [List.lookup], ?_⟩
          refine ⟨_, rfl, v, v, rfl, tw3.same ((s4.trans s45).trans s6), fun H7 s7 => ⟨_, rfl, ?_⟩⟩
          refine iteF ?_
          exact ⟨_, rfl, s5.trans (s6.trans s7)⟩
        · rintro σ H5 ⟨q7, rfl, s5⟩
          exact ⟨_, _, _, _, rfl, s4.trans ((same_new htp).trans s5)⟩
      · rintro σ H4 ⟨q4, q5, q6, q7, rfl, s4⟩
        exact ⟨_, _, _, _, _, _, _, _, _, rfl, s4.seq S3, T3.ext s4⟩
    · rintro σ H1 ⟨o1, o2, o3, o4, o5, o6, o7, o8, o9, rfl, hS1, hT1⟩
      refine fun e1 n1 => fun e2 n2 => ⟨_, _, rfl, ?_⟩
      have hE1 : ErrAt (upd (upd H1 e1 (ExO (.ref (C 14)) e1)) e2 (ExO (.ref (C 6)) e2)) e1 (C 14) := .inr (same_new n2 _ _ upd_same)
      have hE2 : ErrAt (upd (upd H1 e1 (ExO (.ref (C 14)) e1)) e2 (ExO (.ref (C 6)) e2)) e2 (C 6) := .inr upd_same
      have q14 : PySem.W.kitOne K (.ref (C 14)) (.ref (C 14)) = some true := Ap 14 14 (by decide) (by decide)
      have k14 := M.asks 14 (by decide)
      have k6 := M.asks 6 (by decide)
      refine ⟨_, rfl, e1, _, _, _, _, rfl, hE1, k14, .own _, M.hte, _, rfl, ?_⟩
      refine iteF ?_
      refine ⟨_, rfl, e1, _, _, _, _, rfl, hE1, k14, .ty _, M.hve, _, rfl, ?_⟩
      refine iteF ?_
      refine ⟨_, rfl, e1, _, _, _, _, rfl, hE1, k14, .own _, q14, _, rfl, ?_⟩
      refine iteF ?_
      refine ⟨_, rfl, e1, _, _, _, _, rfl, hE1, k14, .ty _, M.hex, _, rfl, ?_⟩
      refine iteF ?_
      refine ⟨_, rfl, e1, _, _, _, _, rfl, hE1, k14, .ty _, M.hle, _, rfl, ?_⟩
      refine iteF ?_
      refine ⟨_, rfl, e1, _, _, _, _, rfl, hE1, k14, .ty _, M.hre, _, rfl, ?_⟩
      refine iteF ?_
      refine ⟨_, rfl, e2, _, _, _, _, rfl, hE2, k6, .own _, M.te 6 (by decide), _, rfl, ?_⟩
      refine iteT ?_
      refine ⟨_, rfl, e2, 6, rfl, by decide, hE2, k6, fun H2 s2 => ⟨rfl, _, rfl, ?_⟩⟩
      refine iteD rfl ?_
      refine ⟨_, rfl, e1, 14, rfl, by decide, hE1.same s2, k14, fun H3 s3 => ⟨rfl, ?_⟩⟩
      rw [decide_eq_true rfl]
      exact kQ _
end
end K01
namespace K01
open PySem PySem.Spec PyProof.Rows L2 LamX
/-- an error's class and its __init__, as the top has written them -/
theorem err_mk {K : PySem.W.Frag} {C fI : Addr} {f qual : Str} {st : Stmt} 
    (xL : ∃ nm q N bs bm sn sub ab col dd k0 k1 k2 k3 k5, K.lookup C = some (excClassObj nm q C N bs bm true sn sub ab col dd k0 k1 k2 k3 k5 "ValueError.__new__") ∧ PySem.HandSPX.refsVE bm = true)
    (sa : PySem.W.findIn K (.ref C) "__setattr__" = some (some (.builtin "object.__setattr__"))) (ga : PySem.W.findIn K (.ref C) "__getattribute__" = some (some (.builtin "BaseException.__getattribute__"))) (gg : PySem.W.findIn K (.ref C) "__getattr__" = some none)
    (no : PySem.W.findIn K (.ref C) f = some none) (iC : PySem.W.findIn K (.ref C) "__init__" = some (some (.ref fI))) (tI : PySem.W.typeIn K (.ref fI) = some (.type "function")) (kC : PySem.W.keepIn K (.ref C) = true)
    (eC : PySem.W.subIn K (.ref C) (.type "BaseException") = some true) (tC : PySem.W.typeIn K (.ref C) = some (.type "type")) (hC : PySem.W.hasDictIn K C = true) (ha : PySem.W.findIn K (.ref C) "__class__" = some (some (.builtin "object.__class__")))
    (hm : PySem.W.mroIn K C (.type "object") = some true) (hn : PySem.W.specialIn K (.builtin "object.__class__") "__get__" = some (some (.builtin "getset_descriptor.__get__"))) (ht : PySem.W.takesIn K (.builtin "object.__class__") = some true)
    (l1 : ∃ (oc : Value) (od : Option Addr) (kV dc pm : Value) (an : Option Addr) (cd ct : Value) (sl : Array (Option Value)), K.lookup fI = some ⟨oc, od, .func (PySem.W.fnOf "__init__" qual (defArgs st) (defBody st) (defScope st) .none kV dc pm an cd ct), sl⟩ ∧ PySem.W.codeIn K cd qual = true)
    (kI : PySem.W.keepIn K (.ref fI) = true)
    (bp : ∀ (kV dc pm : Value) (an : Option Addr) (cd ct u v : Value), bindArgs (PySem.W.fnOf "__init__" qual (defArgs st) (defBody st) (defScope st) .none kV dc pm an cd ct) ⟨[u, v], []⟩ = pure [(("self" : Str), u), (f, v)])
    (bk : ∀ (kV dc pm : Value) (an : Option Addr) (cd ct u v : Value), bindArgs (PySem.W.fnOf "__init__" qual (defArgs st) (defBody st) (defScope st) .none kV dc pm an cd ct) ⟨[u], [(f, v)]⟩ = pure [(("self" : Str), u), (f, v)]) :
    ∃ fd, ErrC K C fI f fd ∧ Fun K "__init__" qual st fI fd := by
  obtain ⟨oc, od, kV, dc, pm, an, cd, ct, sl, l, c1⟩ := l1
  exact ⟨_, ⟨⟨xL, sa, eC, tC, kC⟩, ⟨ga, gg, eC, hC, ha, hn, ht, hm⟩, ⟨ga, gg, eC, hC⟩, no, iC, tI, fun s u v => .of_eq (bp kV dc pm an cd ct u v), fun s u v => .of_eq (bk kV dc pm an cd ct u v)⟩, fun_mk l c1 kI⟩
/-- where the classes of errors stand, and their __init__s -/
def aC (i : Nat) : Addr := ([120, 63, 101, 253, 82, 44, 284, 196, 234, 215, 139, 158, 272, 177, 296, 24] : List Nat).getD i 0
def aI (i : Nat) : Addr := ([117, 60, 98, 250, 79, 41, 0, 193, 231, 212, 136, 155, 269, 174, 0, 0] : List Nat).getD i 0
def kitTab (K : PySem.W.Frag) : Bool := (List.range 15).all fun i => (List.range 15).all fun j => PySem.W.kitOne K (.ref (aC i)) (.ref (aC j)) == some (decide (i = j))
theorem apart_of {K : PySem.W.Frag} (h : kitTab K = true) : Apart K aC := fun i j hi hj => by
  have h1 := List.all_eq_true.mp h i (List.mem_range.mpr hi)
  have h2 := List.all_eq_true.mp h1 j (List.mem_range.mpr hj)
  exact eq_of_beq h2
def kitTe (K : PySem.W.Frag) : Bool := (List.range 14).all fun i => PySem.W.kitOne K (.ref (aC i)) (.ref (aC 15)) == some true
def kitVe (K : PySem.W.Frag) : Bool := (List.range 14).all fun i => PySem.W.kitOne K (.ref (aC i)) (.type "ValueError") == some true
theorem te_of {K : PySem.W.Frag} (h : kitTe K = true) : ∀ i, i < 14 → PySem.W.kitOne K (.ref (aC i)) (.ref (aC 15)) = some true := fun i hi => eq_of_beq (List.all_eq_true.mp h i (List.mem_range.mpr hi))
theorem ve_of {K : PySem.W.Frag} (h : kitVe K = true) : ∀ i, i < 14 → PySem.W.kitOne K (.ref (aC i)) (.type "ValueError") = some true := fun i hi => eq_of_beq (List.all_eq_true.mp h i (List.mem_range.mpr hi))
theorem facts (w : World) : kitTab (k01_head.heap_39 w.params) = true ∧ kitTe (k01_head.heap_39 w.params) = true ∧ kitVe (k01_head.heap_39 w.params) = true := ⟨by with_unfolding_all rfl, by with_unfolding_all rfl, by with_unfolding_all rfl⟩
theorem t0 (w : World) : ∃ fd, ErrC (k01_head.heap_39 w.params) (aC 0) (aI 0) "limit" fd ∧ Fun (k01_head.heap_39 w.params) "__init__" "BadLimit.__init__" (inClass (top 6) 0) (aI 0) fd :=
  err_mk ⟨_, _, _, _, _, _, _, _, _, _, _, _, _, _, _, (by with_unfolding_all rfl), (by with_unfolding_all rfl)⟩ (by with_unfolding_all rfl) (by with_unfolding_all rfl) (by with_unfolding_all rfl) (by with_unfolding_all rfl) (by with_unfolding_all rfl) (by with_unfolding_all rfl) (by with_unfolding_all rfl) (by with_unfolding_all rfl) (by with_unfolding_all rfl) (by with_unfolding_all rfl) (by with_unfolding_all rfl) (by with_unfolding_all rfl) (by with_unfolding_all rfl) (by with_unfolding_all rfl) ⟨_, _, _, _, _, _, _, _, _, (by with_unfolding_all rfl), (by with_unfolding_all rfl)⟩ (by with_unfolding_all rfl) (fun _ _ _ _ _ _ _ _ => rfl) (fun _ _ _ _ _ _ _ _ => rfl)
theorem t1 (w : World) : ∃ fd, ErrC (k01_head.heap_39 w.params) (aC 1) (aI 1) "name" fd ∧ Fun (k01_head.heap_39 w.params) "__init__" "BadName.__init__" (inClass (top 3) 0) (aI 1) fd :=
  err_mk ⟨_, _, _, _, _, _, _, _, _, _, _, _, _, _, _, (by with_unfolding_all rfl), (by with_unfolding_all rfl)⟩ (by with_unfolding_all rfl) (by with_unfolding_all rfl) (by with_unfolding_all rfl) (by with_unfolding_all rfl) (by with_unfolding_all rfl) (by with_unfolding_all rfl) (by with_unfolding_all rfl) (by with_unfolding_all rfl) (by with_unfolding_all rfl) (by with_unfolding_all rfl) (by with_unfolding_all rfl) (by with_unfolding_all rfl) (by with_unfolding_all rfl) (by with_unfolding_all rfl) ⟨_, _, _, _, _, _, _, _, _, (by with_unfolding_all rfl), (by with_unfolding_all rfl)⟩ (by with_unfolding_all rfl) (fun _ _ _ _ _ _ _ _ => rfl) (fun _ _ _ _ _ _ _ _ => rfl)
theorem t2 (w : World) : ∃ fd, ErrC (k01_head.heap_39 w.params) (aC 2) (aI 2) "size" fd ∧ Fun (k01_head.heap_39 w.params) "__init__" "BadSize.__init__" (inClass (top 5) 0) (aI 2) fd :=
  err_mk ⟨_, _, _, _, _, _, _, _, _, _, _, _, _, _, _, (by with_unfolding_all rfl), (by with_unfolding_all rfl)⟩ (by with_unfolding_all rfl) (by with_unfolding_all rfl) (by with_unfolding_all rfl) (by with_unfolding_all rfl) (by with_unfolding_all rfl) (by with_unfolding_all rfl) (by with_unfolding_all rfl) (by with_unfolding_all rfl) (by with_unfolding_all rfl) (by with_unfolding_all rfl) (by with_unfolding_all rfl) (by with_unfolding_all rfl) (by with_unfolding_all rfl) (by with_unfolding_all rfl) ⟨_, _, _, _, _, _, _, _, _, (by with_unfolding_all rfl), (by with_unfolding_all rfl)⟩ (by with_unfolding_all rfl) (fun _ _ _ _ _ _ _ _ => rfl) (fun _ _ _ _ _ _ _ _ => rfl)
theorem t3 (w : World) : ∃ fd, ErrC (k01_head.heap_39 w.params) (aC 3) (aI 3) "stretch" fd ∧ Fun (k01_head.heap_39 w.params) "__init__" "BadStretch.__init__" (inClass (top 13) 0) (aI 3) fd :=
  err_mk ⟨_, _, _, _, _, _, _, _, _, _, _, _, _, _, _, (by with_unfolding_all rfl), (by with_unfolding_all rfl)⟩ (by with_unfolding_all rfl) (by with_unfolding_all rfl) (by with_unfolding_all rfl) (by with_unfolding_all rfl) (by with_unfolding_all rfl) (by with_unfolding_all rfl) (by with_unfolding_all rfl) (by with_unfolding_all rfl) (by with_unfolding_all rfl) (by with_unfolding_all rfl) (by with_unfolding_all rfl) (by with_unfolding_all rfl) (by with_unfolding_all rfl) (by with_unfolding_all rfl) ⟨_, _, _, _, _, _, _, _, _, (by with_unfolding_all rfl), (by with_unfolding_all rfl)⟩ (by with_unfolding_all rfl) (fun _ _ _ _ _ _ _ _ => rfl) (fun _ _ _ _ _ _ _ _ => rfl)
theorem t4 (w : World) : ∃ fd, ErrC (k01_head.heap_39 w.params) (aC 4) (aI 4) "value" fd ∧ Fun (k01_head.heap_39 w.params) "__init__" "BadValue.__init__" (inClass (top 4) 0) (aI 4) fd :=
  err_mk ⟨_, _, _, _, _, _, _, _, _, _, _, _, _, _, _, (by with_unfolding_all rfl), (by with_unfolding_all rfl)⟩ (by with_unfolding_all rfl) (by with_unfolding_all rfl) (by with_unfolding_all rfl) (by with_unfolding_all rfl) (by with_unfolding_all rfl) (by with_unfolding_all rfl) (by with_unfolding_all rfl) (by with_unfolding_all rfl) (by with_unfolding_all rfl) (by with_unfolding_all rfl) (by with_unfolding_all rfl) (by with_unfolding_all rfl) (by with_unfolding_all rfl) (by with_unfolding_all rfl) ⟨_, _, _, _, _, _, _, _, _, (by with_unfolding_all rfl), (by with_unfolding_all rfl)⟩ (by with_unfolding_all rfl) (fun _ _ _ _ _ _ _ _ => rfl) (fun _ _ _ _ _ _ _ _ => rfl)
theorem t5 (w : World) : ∃ fd, ErrC (k01_head.heap_39 w.params) (aC 5) (aI 5) "count" fd ∧ Fun (k01_head.heap_39 w.params) "__init__" "BadWorks.__init__" (inClass (top 2) 0) (aI 5) fd :=
  err_mk ⟨_, _, _, _, _, _, _, _, _, _, _, _, _, _, _, (by with_unfolding_all rfl), (by with_unfolding_all rfl)⟩ (by with_unfolding_all rfl) (by with_unfolding_all rfl) (by with_unfolding_all rfl) (by with_unfolding_all rfl) (by with_unfolding_all rfl) (by with_unfolding_all rfl) (by with_unfolding_all rfl) (by with_unfolding_all rfl) (by with_unfolding_all rfl) (by with_unfolding_all rfl) (by with_unfolding_all rfl) (by with_unfolding_all rfl) (by with_unfolding_all rfl) (by with_unfolding_all rfl) ⟨_, _, _, _, _, _, _, _, _, (by with_unfolding_all rfl), (by with_unfolding_all rfl)⟩ (by with_unfolding_all rfl) (fun _ _ _ _ _ _ _ _ => rfl) (fun _ _ _ _ _ _ _ _ => rfl)
theorem t7 (w : World) : ∃ fd, ErrC (k01_head.heap_39 w.params) (aC 7) (aI 7) "number" fd ∧ Fun (k01_head.heap_39 w.params) "__init__" "CanNot.__init__" (inClass (top 10) 0) (aI 7) fd :=
  err_mk ⟨_, _, _, _, _, _, _, _, _, _, _, _, _, _, _, (by with_unfolding_all rfl), (by with_unfolding_all rfl)⟩ (by with_unfolding_all rfl) (by with_unfolding_all rfl) (by with_unfolding_all rfl) (by with_unfolding_all rfl) (by with_unfolding_all rfl) (by with_unfolding_all rfl) (by with_unfolding_all rfl) (by with_unfolding_all rfl) (by with_unfolding_all rfl) (by with_unfolding_all rfl) (by with_unfolding_all rfl) (by with_unfolding_all rfl) (by with_unfolding_all rfl) (by with_unfolding_all rfl) ⟨_, _, _, _, _, _, _, _, _, (by with_unfolding_all rfl), (by with_unfolding_all rfl)⟩ (by with_unfolding_all rfl) (fun _ _ _ _ _ _ _ _ => rfl) (fun _ _ _ _ _ _ _ _ => rfl)
theorem t8 (w : World) : ∃ fd, ErrC (k01_head.heap_39 w.params) (aC 8) (aI 8) "moment" fd ∧ Fun (k01_head.heap_39 w.params) "__init__" "NoMoment.__init__" (inClass (top 12) 0) (aI 8) fd :=
  err_mk ⟨_, _, _, _, _, _, _, _, _, _, _, _, _, _, _, (by with_unfolding_all rfl), (by with_unfolding_all rfl)⟩ (by with_unfolding_all rfl) (by with_unfolding_all rfl) (by with_unfolding_all rfl) (by with_unfolding_all rfl) (by with_unfolding_all rfl) (by with_unfolding_all rfl) (by with_unfolding_all rfl) (by with_unfolding_all rfl) (by with_unfolding_all rfl) (by with_unfolding_all rfl) (by with_unfolding_all rfl) (by with_unfolding_all rfl) (by with_unfolding_all rfl) (by with_unfolding_all rfl) ⟨_, _, _, _, _, _, _, _, _, (by with_unfolding_all rfl), (by with_unfolding_all rfl)⟩ (by with_unfolding_all rfl) (fun _ _ _ _ _ _ _ _ => rfl) (fun _ _ _ _ _ _ _ _ => rfl)
theorem t9 (w : World) : ∃ fd, ErrC (k01_head.heap_39 w.params) (aC 9) (aI 9) "step" fd ∧ Fun (k01_head.heap_39 w.params) "__init__" "NoStep.__init__" (inClass (top 11) 0) (aI 9) fd :=
  err_mk ⟨_, _, _, _, _, _, _, _, _, _, _, _, _, _, _, (by with_unfolding_all rfl), (by with_unfolding_all rfl)⟩ (by with_unfolding_all rfl) (by with_unfolding_all rfl) (by with_unfolding_all rfl) (by with_unfolding_all rfl) (by with_unfolding_all rfl) (by with_unfolding_all rfl) (by with_unfolding_all rfl) (by with_unfolding_all rfl) (by with_unfolding_all rfl) (by with_unfolding_all rfl) (by with_unfolding_all rfl) (by with_unfolding_all rfl) (by with_unfolding_all rfl) (by with_unfolding_all rfl) ⟨_, _, _, _, _, _, _, _, _, (by with_unfolding_all rfl), (by with_unfolding_all rfl)⟩ (by with_unfolding_all rfl) (fun _ _ _ _ _ _ _ _ => rfl) (fun _ _ _ _ _ _ _ _ => rfl)
theorem t10 (w : World) : ∃ fd, ErrC (k01_head.heap_39 w.params) (aC 10) (aI 10) "name" fd ∧ Fun (k01_head.heap_39 w.params) "__init__" "NoThing.__init__" (inClass (top 7) 0) (aI 10) fd :=
  err_mk ⟨_, _, _, _, _, _, _, _, _, _, _, _, _, _, _, (by with_unfolding_all rfl), (by with_unfolding_all rfl)⟩ (by with_unfolding_all rfl) (by with_unfolding_all rfl) (by with_unfolding_all rfl) (by with_unfolding_all rfl) (by with_unfolding_all rfl) (by with_unfolding_all rfl) (by with_unfolding_all rfl) (by with_unfolding_all rfl) (by with_unfolding_all rfl) (by with_unfolding_all rfl) (by with_unfolding_all rfl) (by with_unfolding_all rfl) (by with_unfolding_all rfl) (by with_unfolding_all rfl) ⟨_, _, _, _, _, _, _, _, _, (by with_unfolding_all rfl), (by with_unfolding_all rfl)⟩ (by with_unfolding_all rfl) (fun _ _ _ _ _ _ _ _ => rfl) (fun _ _ _ _ _ _ _ _ => rfl)
theorem t11 (w : World) : ∃ fd, ErrC (k01_head.heap_39 w.params) (aC 11) (aI 11) "lock" fd ∧ Fun (k01_head.heap_39 w.params) "__init__" "NotHeld.__init__" (inClass (top 8) 0) (aI 11) fd :=
  err_mk ⟨_, _, _, _, _, _, _, _, _, _, _, _, _, _, _, (by with_unfolding_all rfl), (by with_unfolding_all rfl)⟩ (by with_unfolding_all rfl) (by with_unfolding_all rfl) (by with_unfolding_all rfl) (by with_unfolding_all rfl) (by with_unfolding_all rfl) (by with_unfolding_all rfl) (by with_unfolding_all rfl) (by with_unfolding_all rfl) (by with_unfolding_all rfl) (by with_unfolding_all rfl) (by with_unfolding_all rfl) (by with_unfolding_all rfl) (by with_unfolding_all rfl) (by with_unfolding_all rfl) ⟨_, _, _, _, _, _, _, _, _, (by with_unfolding_all rfl), (by with_unfolding_all rfl)⟩ (by with_unfolding_all rfl) (fun _ _ _ _ _ _ _ _ => rfl) (fun _ _ _ _ _ _ _ _ => rfl)
theorem t12 (w : World) : ∃ fd, ErrC (k01_head.heap_39 w.params) (aC 12) (aI 12) "value" fd ∧ Fun (k01_head.heap_39 w.params) "__init__" "NotTruth.__init__" (inClass (top 14) 0) (aI 12) fd :=
  err_mk ⟨_, _, _, _, _, _, _, _, _, _, _, _, _, _, _, (by with_unfolding_all rfl), (by with_unfolding_all rfl)⟩ (by with_unfolding_all rfl) (by with_unfolding_all rfl) (by with_unfolding_all rfl) (by with_unfolding_all rfl) (by with_unfolding_all rfl) (by with_unfolding_all rfl) (by with_unfolding_all rfl) (by with_unfolding_all rfl) (by with_unfolding_all rfl) (by with_unfolding_all rfl) (by with_unfolding_all rfl) (by with_unfolding_all rfl) (by with_unfolding_all rfl) (by with_unfolding_all rfl) ⟨_, _, _, _, _, _, _, _, _, (by with_unfolding_all rfl), (by with_unfolding_all rfl)⟩ (by with_unfolding_all rfl) (fun _ _ _ _ _ _ _ _ => rfl) (fun _ _ _ _ _ _ _ _ => rfl)
theorem t13 (w : World) : ∃ fd, ErrC (k01_head.heap_39 w.params) (aC 13) (aI 13) "number" fd ∧ Fun (k01_head.heap_39 w.params) "__init__" "NoWork.__init__" (inClass (top 9) 0) (aI 13) fd :=
  err_mk ⟨_, _, _, _, _, _, _, _, _, _, _, _, _, _, _, (by with_unfolding_all rfl), (by with_unfolding_all rfl)⟩ (by with_unfolding_all rfl) (by with_unfolding_all rfl) (by with_unfolding_all rfl) (by with_unfolding_all rfl) (by with_unfolding_all rfl) (by with_unfolding_all rfl) (by with_unfolding_all rfl) (by with_unfolding_all rfl) (by with_unfolding_all rfl) (by with_unfolding_all rfl) (by with_unfolding_all rfl) (by with_unfolding_all rfl) (by with_unfolding_all rfl) (by with_unfolding_all rfl) ⟨_, _, _, _, _, _, _, _, _, (by with_unfolding_all rfl), (by with_unfolding_all rfl)⟩ (by with_unfolding_all rfl) (fun _ _ _ _ _ _ _ _ => rfl) (fun _ _ _ _ _ _ _ _ => rfl)
theorem exc_mk {K : PySem.W.Frag} {C : Addr} (ga : PySem.W.findIn K (.ref C) "__getattribute__" = some (some (.builtin "BaseException.__getattribute__"))) (gg : PySem.W.findIn K (.ref C) "__getattr__" = some none)
    (eC : PySem.W.subIn K (.ref C) (.type "BaseException") = some true) (hC : PySem.W.hasDictIn K C = true) (ha : PySem.W.findIn K (.ref C) "__class__" = some (some (.builtin "object.__class__")))
    (hn : PySem.W.specialIn K (.builtin "object.__class__") "__get__" = some (some (.builtin "getset_descriptor.__get__"))) (ht : PySem.W.takesIn K (.builtin "object.__class__") = some true) (hm : PySem.W.mroIn K C (.type "object") = some true) : ExcC K C := ⟨ga, gg, eC, hC, ha, hn, ht, hm⟩
theorem def_mk {K : PySem.W.Frag} {x : Str} {st : Stmt} {f : Addr} 
    (l1 : ∃ (oc : Value) (od : Option Addr) (kV dc pm : Value) (an : Option Addr) (cd ct : Value) (sl : Array (Option Value)), K.lookup f = some ⟨oc, od, .func (PySem.W.fnOf x x (defArgs st) (defBody st) (defScope st) .none kV dc pm an cd ct), sl⟩ ∧ PySem.W.codeIn K cd x = true)
    (k : PySem.W.keepIn K (.ref f) = true) : ∃ fd, Fun K x x st f fd := by
  obtain ⟨oc, od, kV, dc, pm, an, cd, ct, sl, l, c1⟩ := l1
  exact ⟨_, fun_mk l c1 k⟩
theorem defC_mk {K : PySem.W.Frag} {x : Str} {st : Stmt} {f c : Addr} 
    (l1 : ∃ (oc : Value) (od : Option Addr) (kV dc pm : Value) (an : Option Addr) (ct : Value) (sl : Array (Option Value)), K.lookup f = some ⟨oc, od, .func (PySem.W.fnOf x x (defArgs st) (defBody st) (defScope st) .none kV dc pm an (.ref c) ct), sl⟩ ∧ PySem.W.codeIn K (.ref c) x = true)
    (k : PySem.W.keepIn K (.ref f) = true) : ∃ fd, FunC K x x st f fd c ∧ Fun K x x st f fd := by
  obtain ⟨oc, od, kV, dc, pm, an, ct, sl, l, c1⟩ := l1
  exact ⟨_, ⟨⟨oc, od, kV, dc, pm, an, ct, sl, rfl, l, c1⟩, k⟩, fun_mk l c1 k⟩
theorem law_mk {K : PySem.W.Frag} {x y : Str} {st : Stmt} {f : Addr} 
    (l1 : ∃ (oc : Value) (od : Option Addr) (kV dc pm : Value) (an : Option Addr) (cd ct : Value) (sl : Array (Option Value)), K.lookup f = some ⟨oc, od, .func (PySem.W.fnOf x x (defArgs st) (defBody st) (defScope st) .none kV dc pm an cd ct), sl⟩ ∧ PySem.W.codeIn K cd x = true)
    (k : PySem.W.keepIn K (.ref f) = true) (b : ∀ (kV dc pm : Value) (an : Option Addr) (cd ct u : Value), bindArgs (PySem.W.fnOf x x (defArgs st) (defBody st) (defScope st) .none kV dc pm an cd ct) ⟨[u], []⟩ = pure [(y, u)]) :
    ∃ fd, Fun K x x st f fd ∧ ∀ (s : Shared) (u : Value), BindsTo s fd ⟨[u], []⟩ [(y, u)] := by
  obtain ⟨oc, od, kV, dc, pm, an, cd, ct, sl, l, c1⟩ := l1
  exact ⟨_, fun_mk l c1 k, fun s u => .of_eq (b kV dc pm an cd ct u)⟩
theorem asks (w : World) : ∀ i, i < 15 → ExcC (k01_head.heap_39 w.params) (aC i) := fun i hi =>
  match i, hi with
  | 0, _ => exc_mk (by with_unfolding_all rfl) (by with_unfolding_all rfl) (by with_unfolding_all rfl) (by with_unfolding_all rfl) (by with_unfolding_all rfl) (by with_unfolding_all rfl) (by with_unfolding_all rfl) (by with_unfolding_all rfl)
  | 1, _ => exc_mk (by with_unfolding_all rfl) (by with_unfolding_all rfl) (by with_unfolding_all rfl) (by with_unfolding_all rfl) (by with_unfolding_all rfl) (by with_unfolding_all rfl) (by with_unfolding_all rfl) (by with_unfolding_all rfl)
  | 2, _ => exc_mk (by with_unfolding_all rfl) (by with_unfolding_all rfl) (by with_unfolding_all rfl) (by with_unfolding_all rfl) (by with_unfolding_all rfl) (by with_unfolding_all rfl) (by with_unfolding_all rfl) (by with_unfolding_all rfl)
  | 3, _ => exc_mk (by with_unfolding_all rfl) (by with_unfolding_all rfl) (by with_unfolding_all rfl) (by with_unfolding_all rfl) (by with_unfolding_all rfl) (by with_unfolding_all rfl) (by with_unfolding_all rfl) (by with_unfolding_all rfl)
  | 4, _ => exc_mk (by with_unfolding_all rfl) (by with_unfolding_all rfl) (by with_unfolding_all rfl) (by with_unfolding_all rfl) (by with_unfolding_all rfl) (by with_unfolding_all rfl) (by with_unfolding_all rfl) (by with_unfolding_all rfl)
  | 5, _ => exc_mk (by with_unfolding_all rfl) (by with_unfolding_all rfl) (by with_unfolding_all rfl) (by with_unfolding_all rfl) (by with_unfolding_all rfl) (by with_unfolding_all rfl) (by with_unfolding_all rfl) (by with_unfolding_all rfl)
  | 6, _ => exc_mk (by with_unfolding_all rfl) (by with_unfolding_all rfl) (by with_unfolding_all rfl) (by with_unfolding_all rfl) (by with_unfolding_all rfl) (by with_unfolding_all rfl) (by with_unfolding_all rfl) (by with_unfolding_all rfl)
  | 7, _ => exc_mk (by with_unfolding_all rfl) (by with_unfolding_all rfl) (by with_unfolding_all rfl) (by with_unfolding_all rfl) (by with_unfolding_all rfl) (by with_unfolding_all rfl) (by with_unfolding_all rfl) (by with_unfolding_all rfl)
  | 8, _ => exc_mk (by with_unfolding_all rfl) (by with_unfolding_all rfl) (by with_unfolding_all rfl) (by with_unfolding_all rfl) (by with_unfolding_all rfl) (by with_unfolding_all rfl) (by with_unfolding_all rfl) (by with_unfolding_all rfl)
  | 9, _ => exc_mk (by with_unfolding_all rfl) (by with_unfolding_all rfl) (by with_unfolding_all rfl) (by with_unfolding_all rfl) (by with_unfolding_all rfl) (by with_unfolding_all rfl) (by with_unfolding_all rfl) (by with_unfolding_all rfl)
  | 10, _ => exc_mk (by with_unfolding_all rfl) (by with_unfolding_all rfl) (by with_unfolding_all rfl) (by with_unfolding_all rfl) (by with_unfolding_all rfl) (by with_unfolding_all rfl) (by with_unfolding_all rfl) (by with_unfolding_all rfl)
  | 11, _ => exc_mk (by with_unfolding_all rfl) (by with_unfolding_all rfl) (by with_unfolding_all rfl) (by with_unfolding_all rfl) (by with_unfolding_all rfl) (by with_unfolding_all rfl) (by with_unfolding_all rfl) (by with_unfolding_all rfl)
  | 12, _ => exc_mk (by with_unfolding_all rfl) (by with_unfolding_all rfl) (by with_unfolding_all rfl) (by with_unfolding_all rfl) (by with_unfolding_all rfl) (by with_unfolding_all rfl) (by with_unfolding_all rfl) (by with_unfolding_all rfl)
  | 13, _ => exc_mk (by with_unfolding_all rfl) (by with_unfolding_all rfl) (by with_unfolding_all rfl) (by with_unfolding_all rfl) (by with_unfolding_all rfl) (by with_unfolding_all rfl) (by with_unfolding_all rfl) (by with_unfolding_all rfl)
  | 14, _ => exc_mk (by with_unfolding_all rfl) (by with_unfolding_all rfl) (by with_unfolding_all rfl) (by with_unfolding_all rfl) (by with_unfolding_all rfl) (by with_unfolding_all rfl) (by with_unfolding_all rfl) (by with_unfolding_all rfl)
theorem at_end (w : World) (mg : Str → Option Value) (fa : Addr) (h : Heap) (KX : (k01_head.heap_39 w.params).In h) (TT : ∀ P ∈ ([332] : List Addr), h.get? P = some (PySem.W.tabObj #[])) (G : h.Ns mainGlobals mg) (hmg : mg "law" = some (.ref fa)) :
    LawAtS PySem.Challenge.rw_turnways_k01_errors_made w (k01_head.heap_39 w.params) CX0 4 63 "_law_script" mg fa h := by
  have e := hmg.symm.trans (PySem.W.mg_of KX G (n := "law") (v := .ref 344) (by with_unfolding_all rfl))
  cases e
  have B : Blt mg := ⟨PySem.W.mg_none_of KX G (by with_unfolding_all rfl), PySem.W.mg_none_of KX G (by with_unfolding_all rfl), PySem.W.mg_none_of KX G (by with_unfolding_all rfl), PySem.W.mg_none_of KX G (by with_unfolding_all rfl), PySem.W.mg_none_of KX G (by with_unfolding_all rfl), PySem.W.mg_none_of KX G (by with_unfolding_all rfl), PySem.W.mg_none_of KX G (by with_unfolding_all rfl), PySem.W.mg_none_of KX G (by with_unfolding_all rfl), PySem.W.mg_none_of KX G (by with_unfolding_all rfl), PySem.W.mg_none_of KX G (by with_unfolding_all rfl)⟩
  have BE : BltE mg := ⟨PySem.W.mg_none_of KX G (by with_unfolding_all rfl), PySem.W.mg_none_of KX G (by with_unfolding_all rfl), PySem.W.mg_none_of KX G (by with_unfolding_all rfl), PySem.W.mg_none_of KX G (by with_unfolding_all rfl)⟩
  have Z : Cls16 mg aC := ⟨PySem.W.mg_of KX G (by with_unfolding_all rfl), PySem.W.mg_of KX G (by with_unfolding_all rfl), PySem.W.mg_of KX G (by with_unfolding_all rfl), PySem.W.mg_of KX G (by with_unfolding_all rfl), PySem.W.mg_of KX G (by with_unfolding_all rfl), PySem.W.mg_of KX G (by with_unfolding_all rfl), PySem.W.mg_of KX G (by with_unfolding_all rfl), PySem.W.mg_of KX G (by with_unfolding_all rfl), PySem.W.mg_of KX G (by with_unfolding_all rfl), PySem.W.mg_of KX G (by with_unfolding_all rfl), PySem.W.mg_of KX G (by with_unfolding_all rfl), PySem.W.mg_of KX G (by with_unfolding_all rfl), PySem.W.mg_of KX G (by with_unfolding_all rfl), PySem.W.mg_of KX G (by with_unfolding_all rfl), PySem.W.mg_of KX G (by with_unfolding_all rfl), PySem.W.mg_of KX G (by with_unfolding_all rfl)⟩
  have M : More (k01_head.heap_39 w.params) aC := ⟨te_of (facts w).2.1, ve_of (facts w).2.2, (by with_unfolding_all rfl), (by with_unfolding_all rfl), (by with_unfolding_all rfl), (by with_unfolding_all rfl), (by with_unfolding_all rfl), asks w, (by with_unfolding_all rfl), (by with_unfolding_all rfl)⟩
  obtain ⟨d0, z0, g0⟩ := t0 w
  obtain ⟨d1, z1, g1⟩ := t1 w
  obtain ⟨d2, z2, g2⟩ := t2 w
  obtain ⟨d3, z3, g3⟩ := t3 w
  obtain ⟨d4, z4, g4⟩ := t4 w
  obtain ⟨d5, z5, g5⟩ := t5 w
  obtain ⟨d7, z7, g7⟩ := t7 w
  obtain ⟨d8, z8, g8⟩ := t8 w
  obtain ⟨d9, z9, g9⟩ := t9 w
  obtain ⟨d10, z10, g10⟩ := t10 w
  obtain ⟨d11, z11, g11⟩ := t11 w
  obtain ⟨d12, z12, g12⟩ := t12 w
  obtain ⟨d13, z13, g13⟩ := t13 w
  obtain ⟨d_source, F_source⟩ := def_mk (K := k01_head.heap_39 w.params) (x := "_law_source") (st := sSource) (f := 306) ⟨_, _, _, _, _, _, _, _, _, (by with_unfolding_all rfl), (by with_unfolding_all rfl)⟩ (by with_unfolding_all rfl)
  have m_source := PySem.W.mg_of KX G (n := "_law_source") (v := .ref 306) (by with_unfolding_all rfl)
  obtain ⟨d_draw, F_draw⟩ := def_mk (K := k01_head.heap_39 w.params) (x := "_law_draw") (st := sDraw) (f := 313) ⟨_, _, _, _, _, _, _, _, _, (by with_unfolding_all rfl), (by with_unfolding_all rfl)⟩ (by with_unfolding_all rfl)
  have m_draw := PySem.W.mg_of KX G (n := "_law_draw") (v := .ref 313) (by with_unfolding_all rfl)
  obtain ⟨d_same, F_same⟩ := def_mk (K := k01_head.heap_39 w.params) (x := "_law_same") (st := sSame) (f := 318) ⟨_, _, _, _, _, _, _, _, _, (by with_unfolding_all rfl), (by with_unfolding_all rfl)⟩ (by with_unfolding_all rfl)
  have m_same := PySem.W.mg_of KX G (n := "_law_same") (v := .ref 318) (by with_unfolding_all rfl)
  obtain ⟨d_object, F_object⟩ := def_mk (K := k01_head.heap_39 w.params) (x := "_law_object") (st := sObj) (f := 325) ⟨_, _, _, _, _, _, _, _, _, (by with_unfolding_all rfl), (by with_unfolding_all rfl)⟩ (by with_unfolding_all rfl)
  have m_object := PySem.W.mg_of KX G (n := "_law_object") (v := .ref 325) (by with_unfolding_all rfl)
  obtain ⟨d_kinds, F_kinds⟩ := def_mk (K := k01_head.heap_39 w.params) (x := "_law_kinds") (st := sKinds) (f := 330) ⟨_, _, _, _, _, _, _, _, _, (by with_unfolding_all rfl), (by with_unfolding_all rfl)⟩ (by with_unfolding_all rfl)
  have m_kinds := PySem.W.mg_of KX G (n := "_law_kinds") (v := .ref 330) (by with_unfolding_all rfl)
  obtain ⟨d_pairs, C_pairs, F_pairs⟩ := defC_mk (K := k01_head.heap_39 w.params) (x := "_law_pairs") (st := sPairs) (f := 337) (c := 336) ⟨_, _, _, _, _, _, _, _, (by with_unfolding_all rfl), (by with_unfolding_all rfl)⟩ (by with_unfolding_all rfl)
  have m_pairs := PySem.W.mg_of KX G (n := "_law_pairs") (v := .ref 337) (by with_unfolding_all rfl)
  obtain ⟨d_law, F_law, b_law⟩ := law_mk (K := k01_head.heap_39 w.params) (x := "law") (y := "_law_script") (st := sLaw) (f := 344) ⟨_, _, _, _, _, _, _, _, _, (by with_unfolding_all rfl), (by with_unfolding_all rfl)⟩ (by with_unfolding_all rfl) (fun _ _ _ _ _ _ _ => rfl)
  have b_source := F_source.binds (ps := ["_law_script", "_law_at"]) fun _ _ _ _ _ _ us hl => match us, hl with | [_, _], _ => rfl
  have b_draw := F_draw.binds (ps := ["_law_draws", "_law_many"]) fun _ _ _ _ _ _ us hl => match us, hl with | [_, _], _ => rfl
  have b_same := F_same.binds (ps := ["_law_found", "_law_due"]) fun _ _ _ _ _ _ us hl => match us, hl with | [_, _], _ => rfl
  have b_object := F_object.binds (ps := ["_law_draws"]) fun _ _ _ _ _ _ us hl => match us, hl with | [_], _ => rfl
  have b_kinds := F_kinds.binds (ps := ["_law_e"]) fun _ _ _ _ _ _ us hl => match us, hl with | [_], _ => rfl
  have b_pairs := F_pairs.binds (ps := ["_law_a"]) fun _ _ _ _ _ _ us hl => match us, hl with | [_], _ => rfl
  refine ⟨d_law, [(336, 332)], spLaw (k01_head.heap_39 w.params) [(332, "_law_pairs.<locals>.<lambda>")], fun p hp => ?_, fun p hp => ?_, fun p hp => ?_, b_law, fun H a ns hl _ hT hS => ⟨a, ns, rfl, hS, hl, fun p hp => ?_, fun _ => rfl⟩, fun base hK hN hTB => ?_⟩
  · rw [List.mem_singleton.mp hp]
    exact TT 332 (List.mem_singleton.mpr rfl)
  · rw [List.mem_singleton.mp hp]
    with_unfolding_all rfl
  · rw [List.mem_singleton.mp hp]
    exact PySem.W.codeHd_of_K KX (by with_unfolding_all rfl)
  · rw [List.mem_singleton.mp hp]
    exact TabS.nil (hT (336, 332) (List.mem_singleton.mpr rfl))
  · have E1 : Errs PySem.Challenge.rw_turnways_k01_errors_made.prog w (k01_head.heap_39 w.params) mg base aC aI (fun i => [d0, d1, d2, d3, d4, d5, d0, d7, d8, d9, d10, d11, d12, d13].getD i d0) := ⟨z0, ok_errI g0 z0 ⟨rfl, rfl, rfl, by decide +kernel, rfl, by decide +kernel, by decide +kernel⟩ rfl (by decide) (by decide), z1, ok_errI g1 z1 ⟨rfl, rfl, rfl, by decide +kernel, rfl, by decide +kernel, by decide +kernel⟩ rfl (by decide) (by decide), z2, ok_errI g2 z2 ⟨rfl, rfl, rfl, by decide +kernel, rfl, by decide +kernel, by decide +kernel⟩ rfl (by decide) (by decide), z3, ok_errI g3 z3 ⟨rfl, rfl, rfl, by decide +kernel, rfl, by decide +kernel, by decide +kernel⟩ rfl (by decide) (by decide), z4, ok_errI g4 z4 ⟨rfl, rfl, rfl, by decide +kernel, rfl, by decide +kernel, by decide +kernel⟩ rfl (by decide) (by decide), z5, ok_errI g5 z5 ⟨rfl, rfl, rfl, by decide +kernel, rfl, by decide +kernel, by decide +kernel⟩ rfl (by decide) (by decide), z7, ok_errI g7 z7 ⟨rfl, rfl, rfl, by decide +kernel, rfl, by decide +kernel, by decide +kernel⟩ rfl (by decide) (by decide), z8, ok_errI g8 z8 ⟨rfl, rfl, rfl, by decide +kernel, rfl, by decide +kernel, by decide +kernel⟩ rfl (by decide) (by decide), z9, ok_errI g9 z9 ⟨rfl, rfl, rfl, by decide +kernel, rfl, by decide +kernel, by decide +kernel⟩ rfl (by decide) (by decide), z10, ok_errI g10 z10 ⟨rfl, rfl, rfl, by decide +kernel, rfl, by decide +kernel, by decide +kernel⟩ rfl (by decide) (by decide), z11, ok_errI g11 z11 ⟨rfl, rfl, rfl, by decide +kernel, rfl, by decide +kernel, by decide +kernel⟩ rfl (by decide) (by decide), z12, ok_errI g12 z12 ⟨rfl, rfl, rfl, by decide +kernel, rfl, by decide +kernel, by decide +kernel⟩ rfl (by decide) (by decide), z13, ok_errI g13 z13 ⟨rfl, rfl, rfl, by decide +kernel, rfl, by decide +kernel, by decide +kernel⟩ rfl (by decide) (by decide)⟩
    exact ok_law F_law B BE Z E1 (hTB (336, 332) (List.mem_singleton.mpr rfl)) (apart_of (facts w).1) M (by with_unfolding_all rfl) (by with_unfolding_all rfl) F_source m_source b_source F_draw m_draw b_draw F_same m_same b_same F_object m_object b_object F_kinds m_kinds b_kinds C_pairs m_pairs b_pairs
end K01
open PySem PySem.W PyProof.Rows
set_option maxRecDepth 100000 in
set_option maxHeartbeats 0 in
theorem PySem.Challenge.cw_turnways_k01_errors_made_holds : PySem.Challenge.rw_turnways_k01_errors_made.Holds :=
  k01_head (LamX.walk_ofTs (l := PySem.Challenge.rw_turnways_k01_errors_made) (n := 63) (k := 4) (CX := fun _ => L2.CX0) (x := "_law_script") rfl (by decide) rfl ⟨rfl, by decide, by decide⟩ (fun w h Y => PySem.W.km_in_of Y)
    (fun w mg fa h Y KX G hmg => K01.at_end w mg fa h KX (PySem.W.km_tabs_of Y) G hmg) (fun _ _ _ _ _ z => z))
