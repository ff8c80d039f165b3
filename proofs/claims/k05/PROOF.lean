import PyProof.Rows.All
import Wide.All
import OpenK.AllK
import Wide.FinOn
import HandS.ForExc
import HandS.ExcInit
import HandS.ExcIs
import HandS.ExcField
import HandS.Defaults
import HandS.IsInst
import HandS.Comp
import HandS.Dict
import HandS.Iter
import HandS.Text
import HandS.Conv
import HandS.Wide
import HandS.TupAny
import HandS.Flow
import HandS.WordsDict
import PySem.Challenge.RW_onlyheard_k05_whole_shape
import HandS.MakeKwOnly
import HandS.MakeKw
import PyProof.EnumMake
import PyProof.Draws
import KE.GoesMore
import HandS.More
import HandS.WrittenGet
import HandS.CallLocal
import HandS.Walk
import HandS.AnyAll
import HandS.Set
import HandS.Strs
import HandS.SetBool
import HandS.List
import HandS.Star
import HandS.DictComp
import HandS.TryOnly
import KE.KDictZip
import KE.GoesEnum
import HandS.Call
import HandS.OwnEq
import HandS.DeepEq
import PyProof.ListMulRoad
import PyProof.FactsAll.tuple_2
import HandS.Base
import HandS.TupMul
import HandS.RevRange
import HandS.SortInts
import PyProof.Rows.SortShellAny
import HandS.DictTup
import HandS.CallSlots
import HandS.Deep
import KE.KDictPairs
import KE.KDictCopyH
import PyProof.NeKinds
set_option Elab.async false
set_option linter.all false
set_option maxRecDepth 100000
set_option maxHeartbeats 8000000
/-! Exceptions of own classes as plain values: made, asked by isinstance, their attribute read. -/
namespace EV
open PySem PySem.W PySem.Spec PySem.Calls PyProof.Rows
section
variable {prog : Program} {w : World} {A : Around} {E : Value → Shared → Prop} {s : Shared} {K : Frag} {x D : Addr} {ox : Obj} {od : Option Obj}
theorem found_cls {a g : Value} {nm : Str} (c : (clsIn K D).isSome = true) (e1 : findIn K (.ref D) nm = some (some a)) (e2 : specialIn K a "__get__" = some (some g)) (e3 : takesIn K a = some true) :
    findObj K D od nm = some (.bind g a) := by
  obtain ⟨cd, ec⟩ := Option.isSome_iff_exists.mp c
  unfold findObj
  rw [ec, Option.bind_some, e1, Option.bind_some]
  simp [e2, e3]
theorem cls_asked {Q : Option Value → Shared → Prop} (c : L2.ExcC K D) (X : K.In s.heap) (I : InstAt s.heap x ox D od) (h : Q (some (.ref D)) { s with toks := s.toks + 1 }) :
    wpAny (model prog w) A (getAttr? (.ref x) "__class__") Q E s := by
  obtain ⟨hga, hgt, hsub, hdct, ha, hn, htk, hm⟩ := c
  have ff : findObj K D od "__class__" = some (.bind (.builtin "getset_descriptor.__get__") (.builtin "object.__class__")) :=
    found_cls (by obtain ⟨cd, hc, _⟩ := any_some hdct; rw [hc]; rfl) ha hn htk
  obtain ⟨hp, g, d, t, os⟩ := s
  have lT := I.type (M := model prog w)
  have lA := looks_findIn (M := model prog w) X hga
  have lB := looks_findIn (M := model prog w) X hgt
  have lF := looks_find (M := model prog w) X I ff
  have isB : Looks (model prog w) hp (isInstance (.ref x) (.type "BaseException")) true := lT.andThen (looks_subIn X hsub)
  have z2 : (Value.builtin "BaseException.__getattribute__" == Value.builtin "object.__getattribute__") = false := by decide +kernel
  have z1 : (onTheHeap (Value.ref D) && Value.builtin "BaseException.__getattribute__" == Value.builtin "object.__getattribute__") = false := by rw [z2]; rfl
  have z0 : (false && onTheHeap (Value.builtin "BaseException.__getattribute__")) = false := rfl
  unfold getAttr? getAttrBy? getAttrBy
  refine wpAny_bind (wpAny_mkText (wpAny_bind (wpAny_attempt (wpAny_holding (wpAny_bind (lT.at (wpAny_bind (lA.at ?_))))))))
  show wpAny _ _ (if (onTheHeap (Value.ref D) && Value.builtin "BaseException.__getattribute__" == Value.builtin "object.__getattribute__") = true then _ else _) _ _ _
  rw [z1, if_neg Bool.false_ne_true]
  unfold getAttrByItsOwn hookBefore
  refine wpAny_bind ?_
  rw [if_pos (show onTheHeap (Value.ref D) = true from rfl)]
  refine lB.at (wpAny_bind (wpAny_attempt (wpAny_holding ?_)))
  unfold callGetattribute
  rw [z0, if_neg Bool.false_ne_true]
  unfold boundAndCalled
  rw [PySem.F.excAttr_ValueError.ga.bind (.ref x)]
  refine wpAny_bind (wpAny_pure ?_)
  show wpAny _ _ (call (.builtin "BaseException.__getattribute__") [.ref x, .str "__class__" t]) _ _ _
  refine wpAny_call (codeAny_call_builtin PySem.F.excAttr_ValueError.ga.plain PySem.F.entry_bexc_ga ?_)
  refine @check_slot (model prog w) _ _ ⟨hp, g, d, t + 1, os⟩ "BaseException.__getattribute__" "BaseException" "__getattribute__" (.ref x) [.str "__class__" t] [] _
    (by decide +kernel) (by decide +kernel) isB (PySem.F.args_bexc_ga (.ref x) (.str "__class__" t)) ?_
  unfold Builtin.«object.__getattribute__»
  refine wpAny_bind (wpAny_of_eq (a := ((Value.ref x : Value), [Value.str "__class__" t])) (by first | rfl | (simp only [slotArgs]; rfl)) ?_)
  refine wpAny_bind (wpAny_pure (wpAny_bind (lT.at (wpAny_bind (lF.at ?_)))))
  show wpAny _ _ (holding [Value.builtin "object.__class__"] (call (.builtin "getset_descriptor.__get__") [.builtin "object.__class__", .ref x, .ref D]) >>= ret) _ _ _
  refine wpAny_bind (wpAny_holding (wpAny_call (class_get (s := ⟨hp, g, d, t + 1, os⟩) (ox := ox) (od := od) X I hm (wpAny_pure ?_))))
  show wpAny _ _ (handedOut (.ref D)) _ _ _
  rw [handedOut_of (v := .ref D) rfl]
  first
    | exact wpAny_pure (wpAny_pure h)
    | exact wpAny_pure h
    | exact wpAny_pure (wpAny_bind (wpAny_pure (wpAny_pure h)))
theorem kit_exc (c : L2.ExcC K D) : KitX K (.ref x) (.ref D) (fun h => ∃ ox od, InstAt h x ox D od) where
  ty := fun _ _ _ ⟨_, _, I⟩ => I.type
  it := fun _ _ X _ => by
    obtain ⟨cdD, hcD, _⟩ := any_some c.hd
    unfold clsIn at hcD
    split at hcD
    · rename_i c' d' cd' sl' ho
      intro A' Q' E' s' k q
      unfold isType loadHead
      exact wpAny_bind (wpAny_loadPart (k _ _ (X _ _ ho)) (wpAny_pure q))
    · cases hcD
  ne := fun h tp dd its n sl X htp => by
    obtain ⟨cdD, hcD, _⟩ := any_some c.hd
    refine Bool.eq_false_iff.mpr fun q => ?_
    have e : D = tp := Value.ref.inj (beq_iff_eq.mp q)
    subst e
    unfold clsIn at hcD
    split at hcD
    · rename_i c' d' cd' sl' ho
      cases (X _ _ ho).symm.trans htp
    · cases hcD
  ca := fun X ⟨_, _, I⟩ k => cls_asked c X I k
end
end EV
namespace L2
open PySem PySem.Spec PyProof.Rows
section
variable {X : Cx} {pins : List (Addr × Obj)} {σ : St} {H : Hp} {s : Shared}
/-- a tracked exception as the library sees it: its class, its own dict -/
theorem exo_inst {a C d : Addr} {fs : List (Str × V)} (I : Inv X pins σ H s) (ea : H a = some (exo a C (some d))) (ed : H d = some (exd d fs)) :
    ∃ (ox od : Obj) (mA : Str → Option Value), PySem.W.InstAt s.heap a ox C (some od) ∧ (∀ f, RelO (fs.lookup f) (mA f)) ∧ ∀ f, PySem.W.lookIn f od = some (mA f) := by
  obtain ⟨t1, ho⟩ := exo_at I.hok ea
  obtain ⟨mA, hns, rel⟩ := exd_at I.hok ed
  obtain ⟨od, hd, hl⟩ := lookIn_ns hns
  exact ⟨_, od, mA, ⟨ho, rfl, rfl, hd⟩, rel, hl⟩
end
/-- isinstance(e, c), e a tracked exception of the class at D -/
def rIsV (K : PySem.W.Frag) : List V → Hp → VK → Prop := fun xs H Q => ∃ (a D d : Addr) (fs : List (Str × V)) (c : V) (cv : Value) (b : Bool),
  xs = [.ref a, c] ∧ H a = some (exo a D (some d)) ∧ H d = some (exd d fs) ∧ ExcC K D ∧ ClsV c cv ∧ PySem.W.kitOne K (.ref D) cv = some b ∧ Q (.bl b) H
theorem call_isV {X : Cx} : CallR X (.builtin "isinstance") (rIsV X.K) := by
  intro pins s σ H xs us Q I r h
  obtain ⟨a, D, d, fs, c, cv, b, rfl, ea, ed, T, k, e, q⟩ := h
  obtain ⟨u1, u2, rfl, r1, r2⟩ := vals2 r
  cases (show u1 = Value.ref a from r1)
  have e2 := k.eq r2
  subst e2
  obtain ⟨ox, od, mA, J, _, _⟩ := exo_inst I ea ed
  exact PySem.W.kia_one (EV.kit_exc T) I.kIn ⟨_, _, J⟩ e (fun z => nomatch z) fun tk => ⟨.bl b, H, I.tok tk, rfl, q⟩
/-- e.f, e a tracked exception -/
def tEFld (K : PySem.W.Frag) (f : Str) (te : TE) : TE := fun σ H Q => te σ H fun x H1 => ∃ (a C d : Addr) (fs : List (Str × V)) (v : V),
  x = .ref a ∧ H1 a = some (exo a C (some d)) ∧ H1 d = some (exd d fs) ∧ XfC K C ∧ PySem.W.findIn K (.ref C) f = some none ∧ fs.lookup f = some v ∧ Q v H1
theorem pe_efld {X : Cx} {e : Expr} {te : TE} {pos : Pos} {f : Str} (he : PE X e te) (hb : attributeBase e f X.env (eval e X.env) = eval e X.env := by rfl) : PE X (.Attribute e f pos) (tEFld X.K f te) := by
  refine ⟨fun pins s σ H Q I h => ?_⟩
  refine attr_of hb (thn (he.run pins s σ H _ I h) fun u s1 hh => ?_)
  obtain ⟨x, H1, I1, rx, a, C, d, fs, v, ex, ea, ed, T, hno, l, q⟩ := hh
  subst ex
  obtain rfl : u = Value.ref a := rx
  obtain ⟨ox, od, mA, J, rel, hl⟩ := exo_inst I1 ea ed
  obtain ⟨u, hu, ru⟩ := RelO.some_of (v := v) (o := mA f) (by rw [← l]; exact rel f)
  exact HandSPX.exc_get I1.kIn J T.ga T.gg T.exC (PySem.W.findObj_own T.hdC hno rfl (by rw [hl, hu])) (handed_of ru) ⟨v, H1, I1.tok _, ru, q⟩
/-- C(e, ..) as a value; C's __init__ (its own, or one above it) keeps sp -/
def tMkE (C : Addr) (sp : Sp) (dvs : List V) (ta : TA) : TE := fun σ H Q => ta σ H fun vs H1 => vs.length ≤ 1000 ∧ ∀ a, H1 a = none → sp (.ref a :: (vs ++ dvs)) (upd H1 a (exo a C none)) (fun v H2 => v = .non ∧ Q (.ref a) H2) (fun _ _ _ => False)
section
variable {X : Cx} {CX : CXT} {x : Str} {C fI : Addr} {k : Nat} {fd : FuncData} {ps : List Str} {sp : Sp} {ds : List Value} {dvs : List V} {e : Expr} {es : List Expr} {ta : TA} {p pos : Pos}
theorem run_mke {pins : List (Addr × Obj)} {σ : St} {H1 : Hp} {s : Shared} {Q : VK} {us : List Value} {vs : List V} (T : OexC X.K C) (iC : PySem.W.findIn X.K (.ref C) "__init__" = some (some (.ref fI))) (tI : PySem.W.typeIn X.K (.ref fI) = some (.type "function"))
    (F1 : FnOk X.prog X.w X.K X.mg X.base CX k fI fd ps sp) (hr : Room (k + 1) X.A) (hb : Binds X.K fd ps ds) (hd : Vals dvs ds) (hx : Passes CX X (fun _ _ _ => False)) (I1 : Inv X pins σ H1 s) (r1 : Vals vs us) (hz : vs.length ≤ 1000)
    (q1 : ∀ a, H1 a = none → sp (.ref a :: (vs ++ dvs)) (upd H1 a (exo a C none)) (fun v H2 => v = .non ∧ Q (.ref a) H2) (fun _ _ _ => False)) :
    wpAny (model X.prog X.w) X.A (call (.ref C) us) (EP X pins σ Q) X.xe s := by
  obtain ⟨nm, q, N, bs, bm, sn, sub, ab, col, dd, k0, k1, k2, k3, k5, hC, hbm⟩ := T.cls
  obtain ⟨hp, g, dr, tk, os⟩ := s
  have le : hp.objs.size ≤ hp.objs.size + 1 := Nat.le_succ _
  have hq := q1 (hp.objs.size + 1) (I1.hok.fresh le)
  have kept : ∀ b o, hp.get? b = some o → ((hp.push (PySem.W.kdv_tup us)).push (PySem.HandSPX.excO C hp.objs.size)).get? b = some o := fun b o z => Heap.get?_push_of_some _ (Heap.get?_push_of_some _ z)
  have new : ((hp.push (PySem.W.kdv_tup us)).push (PySem.HandSPX.excO C hp.objs.size)).get? (hp.objs.size + 1) = some (PySem.HandSPX.excO C hp.objs.size) := by heap_get
  have I2 : Inv X pins σ (upd H1 (hp.objs.size + 1) (exo (hp.objs.size + 1) C none)) ⟨(hp.push (PySem.W.kdv_tup us)).push (PySem.HandSPX.excO C hp.objs.size), g, dr, tk, os⟩ :=
    I1.laid (t' := tk) (a := hp.objs.size + 1) (o := exo (hp.objs.size + 1) C none) (h' := (hp.push (PySem.W.kdv_tup us)).push (PySem.HandSPX.excO C hp.objs.size)) kept le (exo_ok new)
  have r2 : Vals (V.ref (hp.objs.size + 1) :: (vs ++ dvs)) (Value.ref (hp.objs.size + 1) :: (us ++ ds)) := .cons rfl (r1.append hd)
  have hl : (Value.ref (hp.objs.size + 1) :: us ++ ds).length = ps.length := r2.length.symm.trans (F1.len _ _ _ _ hq)
  have hus : us.length ≤ sizeLine := by
    rw [← Paired.length r1, sizeLine_eq]
    omega
  refine wpAny_call (PySem.HandSPX.call_own F.excBase_ValueError (fun Y => PySem.HandSPX.refsVE_contains Y bm hbm) (I1.kIn _ _ hC) (PySem.W.looks_findIn I1.kIn iC) (fun self => PySem.W.bind_fn I1.kIn self tI) hus
    (codeAny_mono (F1.run _ X.stack _ _ ⟨Value.ref (hp.objs.size + 1) :: us, []⟩ (Value.ref (hp.objs.size + 1) :: (us ++ ds)) _ _ (fun _ _ _ => False) (hr.make C us []) (I2.env0.make C us []) (hb _ (Value.ref (hp.objs.size + 1) :: us) I2.kIn hl) r2 hq) fun r s' hq' => ?_))
  cases r with
  | error er => exact hx pins σ _ _ er s' I2 hq'
  | ok fl =>
    cases fl with
    | ret u =>
      obtain ⟨v, H', I3, rv, ev, q3⟩ := I2.after hq'
      subst ev
      exact ⟨rv, ⟨V.ref (hp.objs.size + 1), H', I3, rfl, q3⟩⟩
    | next => exact False.elim hq'
    | brk => exact False.elim hq'
    | cont => exact False.elim hq'
theorem pe_mke (T : OexC X.K C) (iC : PySem.W.findIn X.K (.ref C) "__init__" = some (some (.ref fI))) (tI : PySem.W.typeIn X.K (.ref fI) = some (.type "function")) (F1 : FnOk X.prog X.w X.K X.mg X.base CX k fI fd ps sp) (hr : Room (k + 1) X.A)
    (hb : Binds X.K fd ps ds) (hd : Vals dvs ds) (hx : Passes CX X (fun _ _ _ => False)) (hg : Gl X x) (hm : X.mg x = some (.ref C)) (ha : PA X (e :: es) ta) (hdb : (x == ("__debug__" : Str)) = false := by decide)
    (he : starEach (e :: es) X.env = (false, eval e X.env) :: starEach es X.env := by rfl) (hpl : (backTo pos (starEach es X.env)).any (·.1) = false := by rfl) : PE X (.Call (.Name x p) (e :: es) [] pos) (tMkE C sp dvs ta) := by
  refine ⟨fun pins s σ H Q I h => ?_⟩
  refine wpAny_Call_Name_kw (ld_glob I hg hm ?_ hdb)
  refine PySem.W.callWith_K (h₀ := X.base) I.ok.mod.kin T.kC (thn (ha.run pos pins s σ H _ I h) fun us s1 ⟨vs, H1, I1, r1, hz, q1⟩ => ⟨I1.kIn, ?_⟩) he hpl
  exact run_mke T iC tI F1 hr hb hd hx I1 r1 hz q1
theorem pe_mke0 (T : OexC X.K C) (iC : PySem.W.findIn X.K (.ref C) "__init__" = some (some (.ref fI))) (tI : PySem.W.typeIn X.K (.ref fI) = some (.type "function")) (F1 : FnOk X.prog X.w X.K X.mg X.base CX k fI fd ps sp) (hr : Room (k + 1) X.A)
    (hb : Binds X.K fd ps ds) (hd : Vals dvs ds) (hx : Passes CX X (fun _ _ _ => False)) (hg : Gl X x) (hm : X.mg x = some (.ref C)) (hdb : (x == ("__debug__" : Str)) = false := by decide) : PE X (.Call (.Name x p) [] [] pos) (tMkE C sp dvs tNil) := by
  refine ⟨fun pins s σ H Q I h => ?_⟩
  refine wpAny_Call_Name_kw (ld_glob I hg hm ?_ hdb)
  obtain ⟨hz, q1⟩ := h
  exact PySem.W.callWith_K0 I.kIn T.kC (run_mke (us := []) T iC tI F1 hr hb hd hx I .nil hz q1)
end
end L2
/-! C(f = e), C an own exception class whose __init__ takes f. -/
namespace EV
open PySem PySem.W PySem.Spec PySem.Calls PyProof.Rows PySem.HandSPX
section
variable {M : Model} {prog : Program} {w : World} {A : Around} {E : Value → Shared → Prop} {R : Result → Shared → Prop} {h : Heap} {g : Array GenState} {d : Drawn} {t : Nat} {os : OsState}
variable {nm q : Str} {C N : Addr} {bs bm bmB : List Value} {hdct : Bool} {sn : List Str} {sub : List Value} {ab : Bool} {col : Option Bool} {dd : Option Addr} {k0 k1 k2 k3 k5 : Option Value} {B newId initId : String} {fn : Str} {fv : Value}
theorem kwTypeCheck {Q : Unit → Shared → Prop} (hC : h.get? C = some (excClassObj nm q C N bs bm hdct sn sub ab col dd k0 k1 k2 k3 k5 newId)) (hq : Q () ⟨h, g, d, t, os⟩) :
    wpAny M A (checkBuiltinCall "type.__call__" ⟨[.ref C], [(fn, fv)]⟩) Q E ⟨h, g, d, t, os⟩ := by
  have s1 := tc_sub
  have s2 : (⟨h, g, d, t, os⟩ : Shared).TypeIs (.ref C) "type" := ⟨_, hC, rfl⟩
  simp only [checkBuiltinCall, tc_kind, tc_split]
  repeat (any_goals (first | assumption | with_reducible refine wpAny_loadPart_at hC ?_ | with_reducible refine wpAny_onRaise ?_ | with_reducible refine wpAny_map ?_ | wp_step))
  all_goals trace_state
theorem kwNewCheck (F : ExcBaseFacts B newId initId bmB) (hT : ∀ X : String, bm.contains (.type X) = bmB.contains (.type X)) {Q : Unit → Shared → Prop}
    (hC : h.get? C = some (excClassObj nm q C N bs bm hdct sn sub ab col dd k0 k1 k2 k3 k5 newId)) (hq : Q () ⟨h, g, d, t, os⟩) : wpAny M A (checkBuiltinCall newId ⟨[.ref C], [(fn, fv)]⟩) Q E ⟨h, g, d, t, os⟩ := by
  have inB : (Value.ref C :: bm).contains (.type B) = true := by rw [List.contains_cons, hT, F.hasB, Bool.or_true]
  have star := F.noStar
  simp only [checkBuiltinCall, F.newKind, F.newSplit, F.newRow]
  repeat (first | refine wpAny_loadPart_at hC ?_ | (refine wpAny_isSubtype_exc hC ?_; rw [inB]) | refine wpAny_staticBase_exc hC ?_ | refine wpAny_madeBy_exc hC ?_ | simp only [bne_self_eq_false, Bool.false_eq_true, if_false] | wp_step)
  first
    | exact hq
    | trace_state
theorem kwNew (F : ExcBaseFacts B newId initId bmB) (hT : ∀ X : String, bm.contains (.type X) = bmB.contains (.type X)) (hC : h.get? C = some (excClassObj nm q C N bs bm hdct sn sub ab col dd k0 k1 k2 k3 k5 newId))
    (hq : R (.ok (.ret (.ref (h.objs.size + 1)))) ⟨(h.push (W.kdv_tup [])).push (excO C h.objs.size), g, d, t, os⟩) : codeAny (model prog w) A (.builtin newId ⟨[.ref C], [(fn, fv)]⟩) R ⟨h, g, d, t, os⟩ := by
  have ends := F.ends
  have inB : (Value.ref C :: bm).contains (.type B) = true := by rw [List.contains_cons, hT, F.hasB, Bool.or_true]
  have inA : (Value.ref C :: bm).contains (.type "AttributeError") = false := by rw [List.contains_cons, hT, F.noAttr]; rfl
  have inN : (Value.ref C :: bm).contains (.type "NameError") = false := by rw [List.contains_cons, hT, F.noName]; rfl
  refine codeAny_builtinAt F.entry ?_
  unfold Builtin.«BaseException.__new__»
  refine PySem.wpAt_bind ?_
  show PySem.wpAt _ _ _ (stack >>= _) _ _ _
  refine PySem.wpAt_bind (PySem.wpAt_stack fun p below => PySem.wpAt_of_wpAny ?_)
  wp_walk
  refine PySem.wpAt_of_wpAny ?_
  rw [F.owner]
  repeat (first | with_reducible refine wpAny_madeHere_exc F.canon hC ?_ | with_reducible refine wpAny_loadPart_at hC ?_ | (with_reducible refine wpAny_isSubtype_exc hC ?_; first | rw [inB] | rw [inA] | rw [inN]) | wp_step)
  show R _ _
  rw [Heap.size_push]
  exact hq
theorem kwTypeCall (F : ExcBaseFacts B newId initId bmB) (hT : ∀ X : String, bm.contains (.type X) = bmB.contains (.type X)) {fI : Addr} {Q : Fin → Shared → Prop}
    (hC : h.get? C = some (excClassObj nm q C N bs bm hdct sn sub ab col dd k0 k1 k2 k3 k5 newId))
    (hi : W.Looks (model prog w) h (typeLookup (.ref C) "__init__") (some (.ref fI))) (hb : ∀ self, W.Looks (model prog w) h (bindSpecial (.ref fI) self) (.ref fI, [self]))
    (hq : codeAny (model prog w) A (.call (.ref fI) ⟨[.ref (h.objs.size + 1)], [(fn, fv)]⟩)
      (fun r s' => match r with | .ok (.ret v) => v = .none ∧ Q (.done (.ret (.ref (h.objs.size + 1)))) s' | .ok _ => False | .error e => E e s') ⟨(h.push (W.kdv_tup [])).push (excO C h.objs.size), g, d, t, os⟩) :
    wpAny (model prog w) A (Builtin.«type.__call__» ⟨[.ref C], [(fn, fv)]⟩) Q E ⟨h, g, d, t, os⟩ := by
  repeat (first | with_reducible refine wpAny_loadPart_at hC ?_ | with_reducible refine wpAny_madeBy_exc hC ?_ | wp_step)
  refine codeAny_call_builtin_code (Code.quiet_builtin _ F.quiet) (kwNewCheck F hT hC ?_)
  refine kwNew F hT hC ?_
  show wpAny _ _ _ _ _ _
  have kk : ∀ b o, h.get? b = some o → ((h.push (W.kdv_tup [])).push (excO C h.objs.size)).get? b = some o := fun b o e => Heap.get?_push_of_some _ (Heap.get?_push_of_some _ e)
  have hC1 := kk _ _ hC
  have new : ((h.push (W.kdv_tup [])).push (excO C h.objs.size)).get? (h.objs.size + 1) = some (excO C h.objs.size) := by heap_get
  have own : (Value.ref C :: bm).contains (.ref C) = true := by simp
  have l1 := hi.keeps kk
  have l2 := (hb (.ref (h.objs.size + 1))).keeps kk
  unfold isInstance
  repeat (first | with_reducible refine wpAny_loadPart_at new ?_ | (with_reducible refine wpAny_isSubtype_exc hC1 ?_; rw [own]) | wp_step)
  show wpAny _ _ (typeLookup (.ref C) _) _ _ _
  refine l1.at (wpAny_holding (wpAny_bind (l2.at (wpAny_bind (wpAny_call (codeAny_mono hq fun r s' z => ?_))))))
  rcases r with e | (v | _ | _ | _) <;> first | exact z | exact z.elim | skip
  obtain ⟨rfl, z⟩ := z
  first
    | exact wpAny_pure (wpAny_pure z)
    | (wp_walk; exact z)
theorem kwCall (F : ExcBaseFacts B newId initId bmB) (hT : ∀ X : String, bm.contains (.type X) = bmB.contains (.type X)) {fI : Addr}
    (hC : h.get? C = some (excClassObj nm q C N bs bm hdct sn sub ab col dd k0 k1 k2 k3 k5 newId))
    (hi : W.Looks (model prog w) h (typeLookup (.ref C) "__init__") (some (.ref fI))) (hb : ∀ self, W.Looks (model prog w) h (bindSpecial (.ref fI) self) (.ref fI, [self]))
    (hq : codeAny (model prog w) (A.under (.builtin "type.__call__" ⟨[.ref C], [(fn, fv)]⟩)) (.call (.ref fI) ⟨[.ref (h.objs.size + 1)], [(fn, fv)]⟩) (W.InitBack (h.objs.size + 1) R)
      ⟨(h.push (W.kdv_tup [])).push (excO C h.objs.size), g, d, t, os⟩) : codeAny (model prog w) A (.call (.ref C) ⟨[], [(fn, fv)]⟩) R ⟨h, g, d, t, os⟩ := by
  have s0 := tc_lookup
  have s1 := tc_bind (.ref C)
  have s2 : (⟨h, g, d, t, os⟩ : Shared).TypeIs (.ref C) "type" := ⟨_, hC, rfl⟩
  refine codeAny_of_tree ?_
  show wpAny _ _ (callAny (.ref C) _) _ _ _
  repeat (any_goals (first | assumption | with_reducible refine wpAny_loadPart_at hC ?_ | wp_step))
  refine ⟨rfl, ?_⟩
  refine codeAny_call_builtin_at (Code.quiet_builtin _ (by decide +kernel)) entry_typeCall (kwTypeCheck hC (kwTypeCall F hT hC hi hb ?_))
  refine codeAny_mono hq fun r s' z => ?_
  rcases r with e | (v | _ | _ | _) <;> exact z
end
end EV
namespace Oh
open PySem PySem.Spec PyProof.Rows L2
def top (i : Nat) : Stmt := PySem.Challenge.pw_onlyheard_k05_whole_shape.main.body.getD i (.Pass ⟨0, 0, 0, 0⟩)
abbrev sSource : Stmt := top 49
abbrev sMixed : Stmt := top 50
abbrev sDraw : Stmt := top 51
abbrev lName : Stmt := top 52
abbrev lMenu : Stmt := top 53
abbrev lExpression : Stmt := top 54
abbrev lParts : Stmt := top 55
abbrev lWays : Stmt := top 56
abbrev lSimple : Stmt := top 57
abbrev lRows : Stmt := top 58
abbrev lNested : Stmt := top 59
abbrev lStatement : Stmt := top 60
abbrev lBlock : Stmt := top 61
abbrev lTop : Stmt := top 62
abbrev sAlike : Stmt := top 63
abbrev lSpoken : Stmt := top 64
abbrev lOwnNames : Stmt := top 65
abbrev lPorts : Stmt := top 66
abbrev lListed : Stmt := top 67
abbrev lOnce : Stmt := top 68
abbrev lDue : Stmt := top 69
abbrev lTold : Stmt := top 70
abbrev lOddPaths : Stmt := top 71
abbrev lIsPath : Stmt := top 72
abbrev lRefused : Stmt := top 73
abbrev lStatementsAgree : Stmt := top 74
abbrev sLaw : Stmt := top 75
abbrev sTold : Stmt := top 9999
abbrev sPicked : Stmt := top 9999
abbrev sHeard : Stmt := top 9999
abbrev sTells : Stmt := top 9999
abbrev sListens : Stmt := top 9999
abbrev sChoices : Stmt := top 9999
abbrev sIsStand : Stmt := top 9999
abbrev sHeadAt : Stmt := top 9999
abbrev sAreValues : Stmt := top 9999
abbrev sStatementAt : Stmt := top 9999
abbrev sHeld : Stmt := top 9999
end Oh
namespace Oh
open PySem PySem.Spec PyProof.Rows L2
/-- a mixed number: some int -/
def spMixed : Sp := fun vs H Q _ => ∃ n c : Int, vs = [.int n, .int c] ∧ ∀ m : Int, Q (.int m) H
/-- where the numbers of a script are drawn from: the list at a, its cells at c -/
structure Src (H : Hp) (a c : Addr) : Prop where
  ne : a ≠ c
  at_ : ∃ (ns : List Int) (i : Nat) (s k : Int), H a = some (.lst [.ref c, .int (i : Int), .int s, .int k]) ∧ H c = some (.lst (ns.map V.int)) ∧ ns.length ≤ 63
/-- all but the two lists stays -/
def Keep (a c : Addr) (H H' : Hp) : Prop := ∀ b o, H b = some o → b ≠ a → b ≠ c → H' b = some o
theorem Keep.refl (a c : Addr) (H : Hp) : Keep a c H H := fun _ _ h _ _ => h
theorem Keep.trans {a c : Addr} {H H1 H2 : Hp} (k : Keep a c H H1) (l : Keep a c H1 H2) : Keep a c H H2 := fun b o h n m => l b o (k b o h n m) n m
theorem Keep.of_same {a c : Addr} {H H' : Hp} (s : Same H H') : Keep a c H H' := fun b o h _ _ => s b o h
def spDraw : Sp := fun vs H Q _ => ∃ (a c : Addr) (m : Int), vs = [.ref a, .int m] ∧ Src H a c ∧ 0 < m ∧ m.natAbs.log2 < 9000 ∧
  ∀ (d : Int) (H' : Hp), 0 ≤ d → d < m → Src H' a c → Keep a c H H' → Q (.int d) H'
structure TxtA (mg : Str → Option Value) : Prop where
  int : mg "int" = none
  len : mg "len" = none
section
variable {P : Program} {w : World} {K : PySem.W.Frag} {mg : Str → Option Value} {base : Heap}
theorem scMixed : FnScope ["_law_number", "_law_count"] ["_law_number", "_law_count"] (defScope sMixed) := ⟨rfl, rfl, rfl, by decide +kernel, rfl, by decide +kernel, by decide +kernel⟩
theorem ok_mixed {f : Addr} {fd : FuncData} (F : Fun K "_law_mixed" "_law_mixed" sMixed f fd) (T : TxtA mg) : FnOk P w K mg base CX0 1 f fd ["_law_number", "_law_count"] spMixed := by
  refine F.ok scMixed (fun vs H Q E h => ?_) (fun cdv A outer s H vs Q E hr h => ?_)
  · obtain ⟨n, c, rfl, _⟩ := h
    rfl
  · obtain ⟨n, c, rfl, k⟩ := h
    refine ⟨_, pss_cons (ps_set (i := 0) scMixed.nd rfl (Or.inl rfl) (pe_op op_mod (pe_op op_mul (pe_callTy call_int1 (by rfl) T.int boot_int (pa_cons (pe_op op_add (pe_op op_add (pv 0) (pe_op op_mul pe_int (pv 1))) pe_int) pa_nil)) pe_int) pe_int))
      (pss_cons (ps_set (i := 0) scMixed.nd rfl (Or.inl rfl) (pe_op op_mod (pe_op op_mul (pe_callTy call_int1 (by rfl) T.int boot_int (pa_cons (pv 0) pa_nil)) (pe_op op_add (pe_op op_fdiv (pv 0) pe_int) pe_int)) pe_int))
      (pss_cons (ps_set (i := 0) scMixed.nd rfl (Or.inl rfl) (pe_op op_mod (pe_op op_mul (pe_callTy call_int1 (by rfl) T.int boot_int (pa_cons (pv 0) pa_nil)) (pe_op op_add (pe_op op_fdiv (pv 0) pe_int) pe_int)) pe_int))
      (pss_one (ps_ret (pe_op op_fdiv (pv 0) pe_int))))), ?_⟩
    refine ⟨_, rfl, _, rfl, _, _, rfl, rfl, .inl (by decide), _, _, rfl, rfl, _, _, rfl, rfl, .inl ⟨_, rfl, _, _, rfl, rfl, .inr (by decide), _, _, rfl, rfl, (by show (0 : Int) < 2147483647; decide), ?_⟩⟩
    have m1 := Int.emod_nonneg ((n + 7919 * c + 1) * 48271) (show (2147483647 : Int) ≠ 0 by decide)
    have m2 := Int.emod_lt_of_pos ((n + 7919 * c + 1) * 48271) (show (0 : Int) < 2147483647 by decide)
    generalize (n + 7919 * c + 1) * 48271 % 2147483647 = x at m1 m2 ⊢
    refine ⟨_, rfl, .inl ⟨_, rfl, _, rfl, _, _, rfl, rfl, ⟨by decide, by decide⟩, _, _, rfl, rfl, _, _, rfl, rfl, .inl (by omega), _, _, rfl, rfl, (by show (0 : Int) < 2147483647; decide), ?_⟩⟩
    have m3 := Int.emod_nonneg (x * (x / 1009 + 69621)) (show (2147483647 : Int) ≠ 0 by decide)
    have m4 := Int.emod_lt_of_pos (x * (x / 1009 + 69621)) (show (0 : Int) < 2147483647 by decide)
    generalize x * (x / 1009 + 69621) % 2147483647 = y at m3 m4 ⊢
    refine ⟨_, rfl, .inl ⟨_, rfl, _, rfl, _, _, rfl, rfl, ⟨by decide, by decide⟩, _, _, rfl, rfl, _, _, rfl, rfl, .inl (by omega), _, _, rfl, rfl, (by show (0 : Int) < 2147483399; decide), ?_⟩⟩
    exact ⟨_, rfl, _, _, rfl, rfl, ⟨by decide, by decide⟩, k _⟩
theorem scDraw : FnScope ["_law_source_here", "_law_many", "_law_cell"] ["_law_source_here", "_law_many"] (defScope sDraw) := ⟨rfl, rfl, rfl, by decide +kernel, rfl, by decide +kernel, by decide +kernel⟩
theorem ok_draw {f fM : Addr} {fd fdM : FuncData} (F : Fun K "_law_draw" "_law_draw" sDraw f fd) (T : TxtA mg) (FM : Fun K "_law_mixed" "_law_mixed" sMixed fM fdM) (bM : Binds K fdM ["_law_number", "_law_count"] []) (mM : mg "_law_mixed" = some (.ref fM)) :
    FnOk P w K mg base CX0 2 f fd ["_law_source_here", "_law_many"] spDraw := by
  have G : FnOk P w K mg base CX0 1 fM fdM ["_law_number", "_law_count"] spMixed := ok_mixed FM T
  refine F.ok scDraw (fun vs H Q E h => ?_) (fun cdv A outer s H vs Q E hr h => ?_)
  · obtain ⟨a, c, m, rfl, _⟩ := h
    rfl
  · obtain ⟨a, c, m, rfl, ⟨ne, ns, i, sm, n, ha, hc, hl⟩, hm, hm2, k⟩ := h
    refine ⟨_, pss_cons (ps_asg (pe_op op_add (pe_ix ix_list (pv 0) pe_int (fun _ _ => rfl)) pe_int) (pg_sub (pv 0) pe_int set_list))
      (pss_cons (ps_if (pt_cmpR op_ge (pe_ix ix_list (pv 0) pe_int (fun _ _ => rfl)) (pe_callB call_len_seq (by rfl) T.len boot_len (pa_cons (pe_ix ix_list (pv 0) pe_int (fun _ _ => rfl)) pa_nil)) (nomark _))
        (pss_one (ps_ret (pe_op op_mod (pe_callTy call_int1 (by rfl) T.int boot_int (pa_cons (pe_call G hr (by rfl) mM FM.kp bM .nil pass0 (pa_cons (pe_ix ix_list (pv 0) pe_int (fun _ _ => rfl)) (pa_cons (pe_ix ix_list (pv 0) pe_int (fun _ _ => rfl)) pa_nil))) pa_nil)) (pv 1)))) pss_nil)
      (pss_cons (ps_set (i := 2) scDraw.nd rfl (Or.inl rfl) (pe_ix ix_list (pe_ix ix_list (pv 0) pe_int (fun _ _ => rfl)) (pe_ix ix_list (pv 0) pe_int (fun _ _ => rfl)) (fun _ _ => rfl)))
      (pss_cons (ps_if (pt_cmpR op_lt (pv 2) (pe_op op_pow pe_int pe_int) (nomark _))
        (pss_cons (ps_asg (pe_op op_add (pe_ix ix_list (pv 0) pe_int (fun _ _ => rfl)) pe_int) (pg_sub (pv 0) pe_int set_list))
        (pss_one (ps_ret (pe_op op_mod (pe_callTy call_int1 (by rfl) T.int boot_int (pa_cons (pe_call G hr (by rfl) mM FM.kp bM .nil pass0 (pa_cons (pv 2) (pa_cons (pe_ix ix_list (pv 0) pe_int (fun _ _ => rfl)) pa_nil))) pa_nil)) (pv 1))))) pss_nil)
      (pss_cons (ps_asg (pe_op op_fdivW (pv 2) (pv 1)) (pg_sub (pe_ix ix_list (pv 0) pe_int (fun _ _ => rfl)) (pe_ix ix_list (pv 0) pe_int (fun _ _ => rfl)) set_list))
      (pss_one (ps_ret (pe_op op_mod (pe_callTy call_int1 (by rfl) T.int boot_int (pa_cons (pv 2) pa_nil)) (pv 1)))))))), ?_⟩
    -- source[3] = source[3] + 1
    refine ⟨_, rfl, a, _, _, _, rfl, rfl, SqL.of ha, rfl, _, _, rfl, rfl, _, rfl, a, _, _, _, rfl, rfl, ha, rfl, ?_⟩
    have h1 : upd H a (.lst [.ref c, .int (i : Int), .int sm, .int (n + 1)]) a = some (.lst [.ref c, .int (i : Int), .int sm, .int (n + 1)]) := upd_same
    have h2 : upd H a (.lst [.ref c, .int (i : Int), .int sm, .int (n + 1)]) c = some (.lst (ns.map V.int)) := by rw [upd_ne ne.symm]; exact hc
    have k1 : Keep a c H (upd H a (.lst [.ref c, .int (i : Int), .int sm, .int (n + 1)])) := fun b o e nb _ => by rw [upd_ne nb]; exact e
    -- the test
    refine ⟨_, rfl, a, _, _, _, rfl, rfl, SqL.of h1, rfl, _, rfl, a, _, _, _, rfl, rfl, SqL.of h1, rfl, c, _, rfl, .inl (SqL.of h2), _, _, rfl, rfl, _, rfl, ?_⟩
    refine ite2 (fun hge => ?_) (fun hlt => ?_)
    · refine ⟨_, rfl, a, _, _, _, rfl, rfl, SqL.of h1, rfl, _, rfl, a, _, _, _, rfl, rfl, SqL.of h1, rfl, _, _, rfl, fun x => .inl ⟨_, rfl, _, rfl, _, _, rfl, rfl, hm, ?_⟩⟩
      exact k _ _ (Int.emod_nonneg _ (by omega)) (Int.emod_lt_of_pos _ hm) ⟨ne, ns, i, sm, n + 1, h1, h2, hl⟩ k1
    · have hi : i < ns.length := by
        have z : ¬ ((ns.map V.int).length : Int) ≤ (i : Int) := fun q => hlt (decide_eq_true q)
        rw [List.length_map] at z
        omega
      have hat : atI (ns.map V.int) (i : Int) = some (V.int ns[i]) := atI_nat (by simp [hi])
      refine ⟨_, rfl, a, _, _, _, rfl, rfl, SqL.of h1, rfl, _, rfl, a, _, _, _, rfl, rfl, SqL.of h1, rfl, c, _, _, _, rfl, rfl, SqL.of h2, hat, ?_⟩
      refine ⟨_, rfl, _, _, rfl, rfl, ⟨by decide, by decide, by decide⟩, _, _, rfl, rfl, _, rfl, ?_⟩
      refine ite2 (fun hsm => ?_) (fun hbig => ?_)
      · refine ⟨_, rfl, a, _, _, _, rfl, rfl, SqL.of h1, rfl, _, _, rfl, rfl, _, rfl, a, _, _, _, rfl, rfl, h1, rfl, ?_⟩
        have g1 : upd (upd H a (.lst [.ref c, .int (i : Int), .int sm, .int (n + 1)])) a (.lst [.ref c, .int ((i : Int) + 1), .int sm, .int (n + 1)]) a = some (.lst [.ref c, .int ((i + 1 : Nat) : Int), .int sm, .int (n + 1)]) := by rw [upd_same]; rfl
        have g2 : upd (upd H a (.lst [.ref c, .int (i : Int), .int sm, .int (n + 1)])) a (.lst [.ref c, .int ((i : Int) + 1), .int sm, .int (n + 1)]) c = some (.lst (ns.map V.int)) := by rw [upd_ne ne.symm]; exact h2
        have k2 : Keep a c H (upd (upd H a (.lst [.ref c, .int (i : Int), .int sm, .int (n + 1)])) a (.lst [.ref c, .int ((i : Int) + 1), .int sm, .int (n + 1)])) := k1.trans fun b o e nb _ => by rw [upd_ne nb]; exact e
        refine ⟨_, rfl, _, rfl, a, _, _, _, rfl, rfl, SqL.of g1, rfl, _, _, rfl, fun x => .inl ⟨_, rfl, _, rfl, _, _, rfl, rfl, hm, ?_⟩⟩
        exact k _ _ (Int.emod_nonneg _ (by omega)) (Int.emod_lt_of_pos _ hm) ⟨ne, ns, i + 1, sm, n + 1, g1, g2, hl⟩ k2
      · have hix : ixN (ns.map V.int).length (i : Int) = some i := by
          unfold ixN
          rw [if_pos (by omega), if_pos (by rw [List.length_map]; omega)]
          rfl
        refine ⟨_, rfl, _, rfl, _, _, rfl, rfl, ⟨hm, hm2⟩, _, rfl, a, _, _, _, rfl, rfl, SqL.of h1, rfl, _, rfl, a, _, _, _, rfl, rfl, SqL.of h1, rfl, c, _, _, _, rfl, rfl, h2, hix, ?_⟩
        refine ⟨_, rfl, .inl ⟨_, rfl, _, rfl, _, _, rfl, rfl, hm, ?_⟩⟩
        refine k _ _ (Int.emod_nonneg _ (by omega)) (Int.emod_lt_of_pos _ hm) ⟨ne, ns.set i (ns[i] / m), i, sm, n + 1, ?_, ?_, by rw [List.length_set]; exact hl⟩ (k1.trans fun b o e _ nb => by rw [upd_ne nb]; exact e)
        · rw [upd_ne ne]; exact h1
        · rw [upd_same, List.map_set]
end
end Oh
namespace Oh
open PySem PySem.Spec PyProof.Rows L2
/-- from the script's list: a new source -/
def spSource (K : PySem.W.Frag) : Sp := fun vs H Q _ => ∃ (a : Addr) (ns : List Int), vs = [.ref a] ∧ SqL K H a (ns.map V.int) ∧ ns.length ≤ 63 ∧ ∀ (p c : Addr) (H' : Hp), Same H H' → Src H' p c → Q (.ref p) H'
section
variable {P : Program} {w : World} {K : PySem.W.Frag} {mg : Str → Option Value} {base : Heap}
theorem Same.new {H : Hp} {p : Addr} {o : HO} (h : H p = none) : Same H (upd H p o) := fun b u e => by
  rw [upd_ne (ne_of_none e h)]
  exact e
theorem ints_at {ns : List Int} {i : Nat} {y : V} (h : (ns.map V.int)[i]? = some y) : ∃ z, y = .int z ∧ ns[i]? = some z := by
  rw [List.getElem?_map] at h
  cases e : ns[i]? with
  | none => rw [e] at h; cases h
  | some z => rw [e] at h; exact ⟨z, (Option.some.inj h).symm, rfl⟩
theorem cut_ints (ns : List Int) (lo hi : Option Int) : ∃ ms : List Int, cutV (ns.map V.int) lo hi = ms.map V.int ∧ ms.length ≤ ns.length := by
  unfold cutV
  refine ⟨(ns.drop _).take _, by rw [List.map_take, List.map_drop], ?_⟩
  rw [List.length_take, List.length_drop]
  omega
theorem scSource : FnScope ["_law_script", "_law_cells", "_law_cell"] ["_law_script"] (defScope sSource) := ⟨rfl, rfl, rfl, by decide +kernel, rfl, by decide +kernel, by decide +kernel⟩
theorem ok_source {f : Addr} {fd : FuncData} (F : Fun K "_law_source" "_law_source" sSource f fd) (T : TxtA mg) (mS : mg "sum" = none) : FnOk P w K mg base CX0 1 f fd ["_law_script"] (spSource K) := by
  refine F.ok scSource (fun vs H Q E h => ?_) (fun cdv A outer s H vs Q E hr h => ?_)
  · obtain ⟨a, ns, rfl, _⟩ := h
    rfl
  · obtain ⟨a, ns, rfl, ha, hl, k⟩ := h
    refine ⟨_, pss_cons (ps_setLc (i := 1) (own := [("_law_cell", 2)]) (g := gName 2) (tt := tYes) rfl scSource.nd rfl rfl (sw_true rfl rfl rfl (by decide +kernel)) (pi_list (pe_slice sl_list (pv 0) po_none (po_some pe_int)))
        (blkOk_by (N := ["_law_script", "_law_cells", "_law_cell"]) (sc := defScope sSource) (by decide +kernel)) (fun _ _ _ _ _ => pg_name (i := 2) scSource.nd rfl (Or.inl rfl)) (fun _ _ _ _ _ => pts_nil) (fun _ _ _ _ _ => pe_callTy call_int1 (by rfl) T.int boot_int (pa_cons (pv 2) pa_nil)))
      (pss_one (ps_ret (pe_lst (pa_cons (pv 1) (pa_cons pe_int (pa_cons (pe_op op_mod (pe_callTy call_int1 (by rfl) T.int boot_int (pa_cons (pe_callB (cr_sum rfl) (by rfl) mS (by decide +kernel) (pa_cons (pv 1) pa_nil)) pa_nil)) pe_int) (pa_cons pe_int pa_nil))))))), ?_⟩
    obtain ⟨ms, em, hm⟩ := cut_ints ns none (some 63)
    refine ⟨_, rfl, _, rfl, a, _, rfl, ha, fun p np => ?_⟩
    have hp : (upd H p (.lst (cutV (ns.map V.int) none (some 63)))) p = some (.lst (ms.map V.int)) := by rw [upd_same, em]
    refine ⟨p, rfl, ⟨_, SqL.of hp⟩, fun D hD => lc_list (K := K) (a := p) (xs := ms.map V.int) (fun i H2 => Same (upd H p (.lst (cutV (ns.map V.int) none (some 63)))) H2 ∧ H2 D = some (.lst ((ms.take i).map V.int)))
      ⟨Same.new hD, by rw [upd_same]; rfl⟩ (fun i H2 _ q => SqL.of (q.1 _ _ hp)) ?_ ?_⟩
    · rintro i y H2 hi ⟨q1, q2⟩
      obtain ⟨z, rfl, ez⟩ := ints_at hi
      refine ⟨rfl, _, rfl, .inl ⟨_, rfl, _, q2, ?_, ?_⟩⟩
      · rw [List.length_map, List.length_take]
        exact small1000 (by omega)
      · refine ⟨fun b o e => ?_, ?_⟩
        · rw [upd_ne (ne_of_none e hD)]
          exact q1 b o e
        · rw [upd_same, List.take_succ, ez]
          simp
    · rintro H2 ⟨q1, q2⟩
      rw [List.length_map, List.take_length] at q2
      refine ⟨_, rfl, _, rfl, _, _, rfl, SqL.of q2, .inl ⟨_, rfl, _, _, rfl, rfl, (by show (0 : Int) < 2147483629; decide), (by show 4 ≤ sizeLine; decide), fun r nr => ?_⟩⟩
      have nD : D ≠ r := ne_of_none q2 nr
      exact k r D _ ((Same.new np).trans (q1.trans (Same.new nr))) ⟨nD.symm, ms, 0, _, 0, by rw [upd_same]; rfl, by rw [upd_ne nD]; exact q2, by omega⟩
end
end Oh
namespace Oh
open PySem PySem.Spec PyProof.Rows L2
theorem bb_bool : bootBuiltins "bool" = some (.type "bool") := by decide +kernel
theorem bb_int : bootBuiltins "int" = some (.type "int") := by decide +kernel
theorem bb_str : bootBuiltins "str" = some (.type "str") := by decide +kernel
theorem bb_tuple : bootBuiltins "tuple" = some (.type "tuple") := by decide +kernel
theorem bb_list : bootBuiltins "list" = some (.type "list") := by decide +kernel
theorem bb_dict : bootBuiltins "dict" = some (.type "dict") := by decide +kernel
theorem bb_ValueError : bootBuiltins "ValueError" = some (.type "ValueError") := by decide +kernel
/-- isinstance(e, T), T a built-in class: its reading -/
def tIsi (K : PySem.W.Frag) (T : String) (te : TE) : TE := fun σ H Q => te σ H fun x H1 => ∃ (t : Value) (b : Bool), TyX K H1 x t ∧ PySem.W.kitOne K t (.type T) = some b ∧ Q (.bl b) H1
theorem PE.imp {X : Cx} {e : Expr} {t t' : TE} (h : PE X e t) (w : ∀ σ H Q, t' σ H Q → t σ H Q) : PE X e t' := ⟨fun pins s σ H Q I q => h.run pins s σ H Q I (w σ H Q q)⟩
/-- a reading may be weakened from within -/
def Mono (te : TE) : Prop := ∀ σ H (Q Q' : VK), (∀ v H', Q v H' → Q' v H') → te σ H Q → te σ H Q'
theorem mono_var {i : Nat} : Mono (tVar i) := fun σ H Q Q' w ⟨v, e, q⟩ => ⟨v, e, w _ _ q⟩
theorem pe_isi {X : Cx} {e : Expr} {te : TE} {x : Str} {T : String} {p q pos : Pos} (he : PE X e te) (mo : Mono te) (hi : X.mg "isinstance" = none) (hT : X.mg x = none) (hv : bootBuiltins x = some (.type T)) (hgi : Gl X "isinstance" := by rfl) (hg : Gl X x := by rfl)
    (hn : x ≠ "__name__" := by decide) (hd : (x == ("__debug__" : Str)) = false := by decide) (h1 : starEach [e, .Name x q] X.env = (false, eval e X.env) :: starEach [.Name x q] X.env := by rfl) (h2 : (backTo pos (starEach [.Name x q] X.env)).any (·.1) = false := by rfl)
    (h3 : starEach [.Name x q] X.env = (false, eval (.Name x q) X.env) :: starEach [] X.env := by rfl) : PE X (.Call (.Name "isinstance" p) [e, .Name x q] [] pos) (tIsi X.K T te) := by
  refine PE.imp (pe_callB (r := rIsi X.K) (hc := call_isi) hgi hi (by decide +kernel) (pa_cons he (pa_cons (pe_bltn (v := .ty T) hg hT hv rfl hn hd) pa_nil h3) h1) (he := h1) (hpl := h2)) fun σ H Q w => mo σ H _ _ (fun v H' ⟨t, b, ty, k, qq⟩ => ⟨v, .ty T, t, .type T, b, rfl, .ty _, ty, k, qq⟩) w
end Oh
namespace Oh
open PySem PySem.Spec PyProof.Rows L2
theorem PA.imp {X : Cx} {es : List Expr} {t t' : TA} (h : PA X es t) (w : ∀ σ H Q, t' σ H Q → t σ H Q) : PA X es t' := ⟨fun pos pins s σ H Q I q => h.run pos pins s σ H Q I (w σ H Q q)⟩
/-- at a: an error of the class at C with the value v -/
def ErrAt (H : Hp) (a C : Addr) (v : V) : Prop := ∃ d, H a = some (exo a C (some d)) ∧ H d = some (exd d [("what", v)])
theorem ErrAt.keep {H H' : Hp} {a C : Addr} {v : V} (e : ErrAt H a C v) (s : Same H H') : ErrAt H' a C v := by
  obtain ⟨d, h1, h2⟩ := e
  exact ⟨d, s _ _ h1, s _ _ h2⟩
/-- what the written part says of an error class; f1: the __init__ that it has from the base class -/
structure ErrC (K : PySem.W.Frag) (f1 C : Addr) : Prop where
  ox : OexC K C
  ec : ExcC K C
  xf : XfC K C
  no : PySem.W.findIn K (.ref C) "what" = some none
  ini : PySem.W.findIn K (.ref C) "__init__" = some (some (.ref f1))
/-- self.what = what -/
def spEInit (K : PySem.W.Frag) (f1 : Addr) : Sp := fun vs H Q _ => ∃ (a C : Addr) (v : V), vs = [.ref a, v] ∧ ErrC K f1 C ∧ H a = some (exo a C none) ∧ ∀ H', (∀ b o, H b = some o → b ≠ a → H' b = some o) → ErrAt H' a C v → Q .non H'
/-- a new error of the class at C, whose value g tells -/
def tErr (g : L2.St → V → Prop) (C : Addr) : TE := fun σ H Q => ∃ v, g σ v ∧ ∀ a H', H a = none → Same H H' → ErrAt H' a C v → Q (.ref a) H'
/-- several of them -/
def Errs (H : Hp) (v : V) (as Cs : List Addr) : Prop := Paired (fun a C => ErrAt H a C v) as Cs
theorem Errs.keep {H H' : Hp} {v : V} (s : Same H H') : ∀ {as Cs : List Addr}, Errs H v as Cs → Errs H' v as Cs
  | _, _, .nil => .nil
  | _, _, .cons h t => .cons (h.keep s) (Errs.keep s t)
theorem Errs.append {H : Hp} {v : V} : ∀ {as Cs bs Ds : List Addr}, Errs H v as Cs → Errs H v bs Ds → Errs H v (as ++ bs) (Cs ++ Ds)
  | _, _, _, _, .nil, h => h
  | _, _, _, _, .cons a t, h => .cons a (Errs.append t h)
def tErrs (g : L2.St → V → Prop) (Cs : List Addr) : TA := fun σ H Q => ∃ v, g σ v ∧ ∀ as H', Same H H' → Errs H' v as Cs → Q (as.map V.ref) H'
def Det (g : L2.St → V → Prop) : Prop := ∀ σ v v', g σ v → g σ v' → v = v'
section
variable {X : Cx} {e : Expr} {es : List Expr} {g : L2.St → V → Prop} {C f1 : Addr} {Cs : List Addr}
theorem pa_errs0 (g : L2.St → V → Prop) : PA X [] (tErrs g []) := PA.imp pa_nil fun σ H Q ⟨v, _, q⟩ => q [] H (Same.refl H) .nil
theorem pa_errs (dg : Det g) (he : PE X e (tErr g C)) (hr : PA X es (tErrs g Cs)) (hs : starEach (e :: es) X.env = (false, eval e X.env) :: starEach es X.env := by rfl) : PA X (e :: es) (tErrs g (C :: Cs)) := by
  refine PA.imp (pa_cons he hr hs) fun σ H Q h => ?_
  obtain ⟨v, gv, q⟩ := h
  refine ⟨v, gv, fun a H1 _ s1 e1 => ⟨v, gv, fun as H2 s2 e2 => ?_⟩⟩
  exact q (a :: as) H2 (s1.trans s2) (.cons (e1.keep s2) e2)
variable {CX : CXT} {x : Str} {k : Nat} {fd : FuncData} {ps : List Str} {ds : List Value} {dvs : List V} {ta : TA} {p pos : Pos}
theorem err_of {H H' : Hp} {a C : Addr} (na : H a = none) (hk : ∀ b o, upd H a (exo a C none) b = some o → b ≠ a → H' b = some o) : Same H H' := fun b o e => by
  have nb := ne_of_none e na
  exact hk b o (by rw [upd_ne nb]; exact e) nb
/-- C(e) -/
theorem pe_err1 {te : TE} (T : ErrC X.K f1 C) (tI : PySem.W.typeIn X.K (.ref f1) = some (.type "function")) (F1 : FnOk X.prog X.w X.K X.mg X.base CX0 k f1 fd ps (spEInit X.K f1)) (hr : Room (k + 1) X.A) (hb : Binds X.K fd ps []) (hm : X.mg x = some (.ref C)) (he : PE X e te)
    (hte : ∀ σ H Q, (∃ v, g σ v ∧ Q v H) → te σ H Q) (hg : Gl X x := by rfl) (hdb : (x == ("__debug__" : Str)) = false := by decide)
    (h1 : starEach [e] X.env = (false, eval e X.env) :: starEach [] X.env := by rfl) (hpl : (backTo pos (starEach [] X.env)).any (·.1) = false := by rfl) : PE X (.Call (.Name x p) [e] [] pos) (tErr g C) := by
  refine PE.imp (pe_mke T.ox T.ini tI F1 hr hb .nil pass0 hg hm (pa_cons he pa_nil h1) hdb h1 hpl) fun σ H Q h => ?_
  obtain ⟨v, gv, q⟩ := h
  refine hte σ H _ ⟨v, gv, (by show 1 ≤ 1000; decide), fun a na => ⟨a, C, v, rfl, T, upd_same, fun H' hk e1 => ⟨rfl, ?_⟩⟩⟩
  exact q a H' na (err_of na hk) e1
/-- C() -/
theorem pe_err0 (T : ErrC X.K f1 C) (tI : PySem.W.typeIn X.K (.ref f1) = some (.type "function")) (F1 : FnOk X.prog X.w X.K X.mg X.base CX0 k f1 fd ps (spEInit X.K f1)) (hr : Room (k + 1) X.A) (hb : Binds X.K fd ps ds) (hd : Vals [V.non] ds) (hm : X.mg x = some (.ref C))
    (hg : Gl X x := by rfl) (hdb : (x == ("__debug__" : Str)) = false := by decide) : PE X (.Call (.Name x p) [] [] pos) (tErr (fun _ v => v = .non) C) := by
  refine PE.imp (pe_mke0 T.ox T.ini tI F1 hr hb hd pass0 hg hm hdb) fun σ H Q h => ?_
  obtain ⟨v, rfl, q⟩ := h
  refine ⟨by decide, fun a na => ⟨a, C, .non, rfl, T, upd_same, fun H' hk e1 => ⟨rfl, ?_⟩⟩⟩
  exact q a H' na (err_of na hk) e1
end
/-! ### isinstance of an error, of several classes -/
def IsE (H : Hp) (a D : Addr) : Prop := ∃ d fs, H a = some (exo a D (some d)) ∧ H d = some (exd d fs)
theorem ErrAt.is {H : Hp} {a C : Addr} {v : V} (e : ErrAt H a C v) : IsE H a C := by
  obtain ⟨d, h1, h2⟩ := e
  exact ⟨d, _, h1, h2⟩
theorem IsE.keep {H H' : Hp} {a D : Addr} (e : IsE H a D) (s : Same H H') : IsE H' a D := by
  obtain ⟨d, fs, h1, h2⟩ := e
  exact ⟨d, fs, s _ _ h1, s _ _ h2⟩
def tIsC (K : PySem.W.Frag) (cv : Value) (te : TE) : TE := fun σ H Q => te σ H fun x H1 => ∃ (a D : Addr) (b : Bool), x = .ref a ∧ IsE H1 a D ∧ ExcC K D ∧ PySem.W.kitOne K (.ref D) cv = some b ∧ Q (.bl b) H1
section
variable {X : Cx} {e : Expr} {es : List Expr} {x : Str} {C : Addr} {te : TE} {p q pos : Pos}
theorem pe_isc (he : PE X e te) (mo : Mono te) (hi : X.mg "isinstance" = none) (hm : X.mg x = some (.ref C)) (hgi : Gl X "isinstance" := by rfl) (hg : Gl X x := by rfl) (hd : (x == ("__debug__" : Str)) = false := by decide)
    (h1 : starEach [e, .Name x q] X.env = (false, eval e X.env) :: starEach [.Name x q] X.env := by rfl) (h2 : (backTo pos (starEach [.Name x q] X.env)).any (·.1) = false := by rfl) (h3 : starEach [.Name x q] X.env = (false, eval (.Name x q) X.env) :: starEach [] X.env := by rfl) :
    PE X (.Call (.Name "isinstance" p) [e, .Name x q] [] pos) (tIsC X.K (.ref C) te) := by
  refine PE.imp (pe_callB (r := rIsV X.K) (hc := call_isV) hgi hi (by decide +kernel) (pa_cons he (pa_cons (pe_glob (v := .ref C) hg hm rfl hd) pa_nil h3) h1) (he := h1) (hpl := h2)) fun σ H Q w => mo σ H _ _ (fun v H' ⟨a, D, b, ev, ⟨d, fs, ea, ed⟩, ec, k, qq⟩ => ?_) w
  exact ⟨a, D, d, fs, .ref C, .ref C, b, by rw [ev], ea, ed, ec, .own C, k, qq⟩
/-- a built-in class in the second place -/
theorem pe_isb {T : String} (he : PE X e te) (mo : Mono te) (hi : X.mg "isinstance" = none) (hT : X.mg x = none) (hv : bootBuiltins x = some (.type T)) (hgi : Gl X "isinstance" := by rfl) (hg : Gl X x := by rfl) (hn : x ≠ "__name__" := by decide) (hd : (x == ("__debug__" : Str)) = false := by decide)
    (h1 : starEach [e, .Name x q] X.env = (false, eval e X.env) :: starEach [.Name x q] X.env := by rfl) (h2 : (backTo pos (starEach [.Name x q] X.env)).any (·.1) = false := by rfl) (h3 : starEach [.Name x q] X.env = (false, eval (.Name x q) X.env) :: starEach [] X.env := by rfl) :
    PE X (.Call (.Name "isinstance" p) [e, .Name x q] [] pos) (tIsC X.K (.type T) te) := by
  refine PE.imp (pe_callB (r := rIsV X.K) (hc := call_isV) hgi hi (by decide +kernel) (pa_cons he (pa_cons (pe_bltn (v := .ty T) hg hT hv rfl hn hd) pa_nil h3) h1) (he := h1) (hpl := h2)) fun σ H Q w => mo σ H _ _ (fun v H' ⟨a, D, b, ev, ⟨d, fs, ea, ed⟩, ec, k, qq⟩ => ?_) w
  exact ⟨a, D, d, fs, .ty T, .type T, b, by rw [ev], ea, ed, ec, .ty T, k, qq⟩
/-- the answers for several classes -/
def Kits (K : PySem.W.Frag) (D : Addr) (Cs : List Addr) (bs : List Bool) : Prop := Paired (fun C b => PySem.W.kitOne K (.ref D) (.ref C) = some b) Cs bs
def tFl (K : PySem.W.Frag) (i : Nat) (Cs : List Addr) : TA := fun σ H Q => ∃ a D bs, σ[i]? = some (some (.ref a)) ∧ IsE H a D ∧ ExcC K D ∧ Kits K D Cs bs ∧ Q (bs.map V.bl) H
theorem pa_fl0 (K : PySem.W.Frag) (i : Nat) : PA X [] (tFl K i []) := PA.imp pa_nil fun σ H Q ⟨a, D, bs, _, _, _, kk, q⟩ => by
  cases kk
  exact q
theorem pa_fl {i : Nat} {Cs : List Addr} (he : PE X e (tIsC X.K (.ref C) (tVar i))) (hr : PA X es (tFl X.K i Cs)) (hs : starEach (e :: es) X.env = (false, eval e X.env) :: starEach es X.env := by rfl) : PA X (e :: es) (tFl X.K i (C :: Cs)) := by
  refine PA.imp (pa_cons he hr hs) fun σ H Q h => ?_
  obtain ⟨a, D, bs, ea, hE, ec, kk, qq⟩ := h
  cases kk with
  | cons k1 kr => exact ⟨_, ea, a, D, _, rfl, hE, ec, k1, a, D, _, ea, hE, ec, kr, qq⟩
end
end Oh
namespace Oh
open PySem PySem.Spec PyProof.Rows L2
theorem Src.some_a {H : Hp} {a c : Addr} (s : Src H a c) : ∃ o, H a = some o := by
  obtain ⟨_, ns, i, sm, k, h1, _⟩ := s
  exact ⟨_, h1⟩
theorem Src.some_c {H : Hp} {a c : Addr} (s : Src H a c) : ∃ o, H c = some o := by
  obtain ⟨_, ns, i, sm, k, _, h2, _⟩ := s
  exact ⟨_, h2⟩
theorem free_ne {H : Hp} {a p : Addr} (s : ∃ o, H a = some o) (h : H p = none) : p ≠ a := fun e => by
  obtain ⟨o, q⟩ := s
  rw [e, q] at h
  cases h
theorem dom_back {H H' : Hp} {a c p : Addr} (k : Keep a c H H') (s' : Src H' a c) (h : H' p = none) : H p = none := by
  cases e : H p with
  | none => rfl
  | some o =>
    have q := k p o e (free_ne s'.some_a h) (free_ne s'.some_c h)
    rw [h] at q
    cases q
theorem Src.of_ne {H : Hp} {a c p : Addr} {o : HO} (s : Src H a c) (h1 : a ≠ p) (h2 : c ≠ p) : Src (upd H p o) a c := by
  obtain ⟨n, ns, i, sm, k, x1, x2, x3⟩ := s
  exact ⟨n, ns, i, sm, k, by rw [upd_ne h1]; exact x1, by rw [upd_ne h2]; exact x2, x3⟩
theorem Src.new {H : Hp} {a c p : Addr} {o : HO} (s : Src H a c) (h : H p = none) : Src (upd H p o) a c := s.of_ne (free_ne s.some_a h).symm (free_ne s.some_c h).symm
theorem never_ok {P : Program} {w : World} {K : PySem.W.Frag} {mg : Str → Option Value} {base : Heap} {CX : CXT} {k : Nat} {f : Addr} {fd : FuncData} {ps : List Str} : FnOk P w K mg base CX k f fd ps (fun _ _ _ _ => False) :=
  ⟨fun _ _ _ _ h => h.elim, fun _ _ _ _ _ _ _ _ _ _ _ _ _ h => h.elim⟩
theorem log2_small {m : Int} (h0 : 0 < m) (h : m < 2 ^ 200) : m.natAbs.log2 < 9000 := by
  have z : m.natAbs < 2 ^ 200 := by omega
  exact Nat.lt_trans (PySem.Flt.log2_lt_of (by decide) z) (by decide)
theorem keyI {i j : Nat} (h : (Sum.inl (i : Int) : L2.Key) = Sum.inl (j : Int)) : i = j := by
  have z := Sum.inl.inj h
  omega
theorem mem_map_get {α : Type} {xs : List α} {i : Nat} {x : α} (h : xs[i]? = some x) : x ∈ xs := by
  obtain ⟨h1, h2⟩ := List.getElem?_eq_some_iff.mp h
  exact h2 ▸ List.getElem_mem h1
structure TxtO (mg : Str → Option Value) : Prop extends TxtA mg where
  range : mg "range" = none
  tuple : mg "tuple" = none
structure TxtI (mg : Str → Option Value) : Prop where
  isi : mg "isinstance" = none
  bool : mg "bool" = none
  int : mg "int" = none
  str : mg "str" = none
  tuple : mg "tuple" = none
  list : mg "list" = none
  dict : mg "dict" = none
  len : mg "len" = none
  range : mg "range" = none
theorem kitNo {K : PySem.W.Frag} {a b : String} (h : kitB a b = some false) : PySem.W.kitOne K (.type a) (.type b) = some false := kit_ty h
theorem kitYes {K : PySem.W.Frag} {a b : String} (h : kitB a b = some true) : PySem.W.kitOne K (.type a) (.type b) = some true := kit_ty h
theorem small9 {n : Nat} (h : n ≤ 1000) : n ≤ sizeLine := Nat.le_of_lt (small1000 h)
theorem free1 {H H1 : Hp} {p : Addr} (s : Same H H1) (h : H1 p = none) : H p = none := s.free h
abbrev sEInit : Stmt := inClass (top 41) 0
theorem scEInit : FnScope ["self", "what"] ["self", "what"] (defScope sEInit) := ⟨rfl, rfl, rfl, by decide +kernel, rfl, by decide +kernel, by decide +kernel⟩
section
variable {P : Program} {w : World} {K : PySem.W.Frag} {mg : Str → Option Value} {base : Heap} {f1 : Addr} {cs : Nat → Addr}
abbrev EInit (K : PySem.W.Frag) (f : Addr) (fd : FuncData) : Prop := FunD K "__init__" "HeardError.__init__" (defArgs sEInit) (defBody sEInit) (defScope sEInit) [V.non] [] f fd
theorem ok_einit {fd : FuncData} (F : EInit K f1 fd) : FnOk P w K mg base CX0 1 f1 fd ["self", "what"] (spEInit K f1) := by
  refine F.ok scEInit (fun vs H Q E h => ?_) (fun cdv A outer s H vs Q E hr h => ?_)
  · obtain ⟨a, C, v, rfl, _⟩ := h
    rfl
  · obtain ⟨a, C, v, rfl, T, ha, k⟩ := h
    refine ⟨_, pss_one (ps_ost (pv 0) (pv 1)), ?_⟩
    refine ⟨_, rfl, _, rfl, a, C, rfl, T.ox, T.no, .inl ⟨ha, fun dx nd ne => ?_⟩⟩
    exact k _ (fun b o e nb => by rw [upd_ne nb, upd_ne (ne_of_none e nd)]; exact e) ⟨dx, upd_same, by rw [upd_ne ne]; exact upd_same⟩
theorem b_einit2 {fd : FuncData} (F : EInit K f1 fd) : Binds K fd ["self", "what"] [] := by
  obtain ⟨ds, r, b⟩ := F.binds1 (ps := ["self", "what"]) 2 1 (by decide) rfl fun T kV doc pm an cdv ct us its h1 h2 => match us, its, h1, h2 with | [_, _], [_], _, _ => ⟨_, rfl, rfl⟩
  cases r
  exact b
theorem b_einit1 {fd : FuncData} (F : EInit K f1 fd) : ∃ ds, Vals [V.non] ds ∧ Binds K fd ["self", "what"] ds :=
  F.binds1 (ps := ["self", "what"]) 1 0 (by decide) rfl fun T kV doc pm an cdv ct us its h1 h2 => match us, its, h1, h2 with | [_], [_], _, _ => ⟨_, rfl, rfl⟩
end
end Oh
/-! enumerate(a tuple) -/
namespace PySem
open Sem (wp)
open AutoSeq1 (wpAny_loadPart')
theorem enumT_new (l : Addr) (items : Array Value) (n : Nat) (dct : Option Addr) (sl : Array (Option Value)) :
    Meets (Builtin.«enumerate.__new__» ⟨[.type "enumerate", .ref l], []⟩) (fun _ R s => s.heap.get? l = some { cls := .type "tuple", dict := dct, data := .seq items n, slots := sl } ∧
      R (.ok (.ret (.ref (s.heap.push { cls := .type "tuple_iterator", data := .fields #[.ref l, .int 0 0] }).objs.size)))
        { s with heap := (s.heap.push { cls := .type "tuple_iterator", data := .fields #[.ref l, .int 0 0] }).push { cls := .type "enumerate", data := .fields #[.none, .bool false, .ref s.heap.objs.size, rawInt 0, .none, .none] } }) :=
  .of_wp fun prog w A R s h => by
    obtain ⟨hp, g, d, tk, os⟩ := s
    obtain ⟨hl, h⟩ := h
    have is1 := sub_enumerate
    have tt : Heap.IsTuple (Shared.heap ⟨hp, g, d, tk, os⟩) l items := ⟨_, hl, rfl, n, rfl⟩
    wp_walk using wpAny_loadPart' hl
    refine wpAny_stack_any fun st => wpAny_pure ?_
    split
    · rename_i c _ _ _ _ _
      cases (c == Value.type "enumerate")
      all_goals
        wp_walk using wpAny_loadPart' hl, wpAny_pyIter_tuple tt
        exact ⟨_, rfl, h⟩
    · wp_walk using wpAny_loadPart' hl, wpAny_pyIter_tuple tt
      exact ⟨_, rfl, h⟩
theorem enumT_call {prog : Program} {w : World} {A : Around} {E : Value → Shared → Prop} {s : Shared} {l : Addr} {items : Array Value} {Q : Value → Shared → Prop} (tt : s.heap.IsTuple l items)
    (h : ∀ h', IsEnum h' (s.heap.objs.size + 1) s.heap.objs.size 0 .none → h'.IsTupleIter s.heap.objs.size l 0 → h'.objs.size = s.heap.objs.size + 2 → (∀ b o, s.heap.get? b = some o → h'.get? b = some o) → Q (.ref (s.heap.objs.size + 1)) { s with heap := h' }) :
    wpAny (model prog w) A (call (.type "enumerate") [.ref l]) Q E s := by
  obtain ⟨⟨c, dct, dt, sl⟩, hl, hc, n, hd⟩ := tt
  replace hc : c = .type "tuple" := hc
  replace hd : dt = .seq items n := hd
  subst hc hd
  refine callType_new F.called_enumerate (by decide) (F.typeCall_enumerate_1 _) (F.newCall_enumerate_1 _) (fun obj => F.args_object_init_2 obj _) F.entry_enumerate_new (enumT_new l items n dct sl) ⟨hl, ?_⟩
  have z : (s.heap.push { cls := .type "tuple_iterator", data := .fields #[.ref l, .int 0 0] }).objs.size = s.heap.objs.size + 1 := Heap.size_push ..
  show _ ∧ _
  rw [z]
  have e1 : IsEnum ((s.heap.push { cls := .type "tuple_iterator", data := .fields #[.ref l, .int 0 0] }).push { cls := .type "enumerate", data := .fields #[.none, .bool false, .ref s.heap.objs.size, rawInt 0, .none, .none] }) (s.heap.objs.size + 1) s.heap.objs.size 0 .none := by
    have q := Heap.get?_push_size (s.heap.push { cls := .type "tuple_iterator", data := .fields #[.ref l, .int 0 0] }) (o := { cls := .type "enumerate", data := .fields #[.none, .bool false, .ref s.heap.objs.size, rawInt 0, .none, .none] }) rfl
    rw [z] at q
    exact q
  exact ⟨⟨_, e1, rfl⟩, h _ e1 ⟨_, Heap.get?_push_of_some _ (Heap.get?_push_size _ rfl), rfl, rfl⟩ (by rw [Heap.size_push, z]) fun b o x => Heap.get?_push_of_some _ (Heap.get?_push_of_some _ x)⟩
end PySem
namespace L2
open PySem PySem.Spec PyProof.Rows
/-- the tuple at a, each item in a new pair with its place -/
def IteT (K : PySem.W.Frag) (a : Addr) : It :=
  ⟨fun i H => ∃ (xs : List V) (x : V), SqT K H a xs ∧ xs[i]? = some x, fun i H v H' => ∃ T x, v = .ref T ∧ H T = none ∧ H' = upd H T (.tup [.int (i : Nat), x]) ∧ ∀ xs, SqT K H a xs → xs[i]? = some x, fun i H => ∃ xs : List V, SqT K H a xs ∧ xs.length ≤ i⟩
theorem turn_enumT {P : Program} {w : World} {K : PySem.W.Frag} {elts : List Expr} {kk : Nat} {tpos : Pos} (a e it : Addr) :
    Turn P w K (.Tuple elts kk tpos) (IteT K a) [e, it] e (fun i h => (∃ old, IsEnum h e it ((i : Nat) : Int) old) ∧ h.IsTupleIter it a i ∧ e ≠ it) where
  mem := by simp
  obj := fun i h st b hb => by
    obtain ⟨⟨old, he⟩, ⟨o, ho, hc, hd⟩, _⟩ := st
    rcases (show b = e ∨ b = it by simpa using hb) with z | z
    · rw [z]; exact ⟨_, he, fun v q => nomatch q⟩
    · rw [z]; exact ⟨o, ho, fun v q => by rw [hd] at q; cases q⟩
  keep := fun i h h' st k => let ⟨⟨old, he⟩, hi, hne⟩ := st; ⟨⟨old, k e (by simp) _ he⟩, hi.at fun o q => k it (by simp) o q, hne⟩
  item := by
    intro X hP hw hK hc i pins s σ H E I hf st hg
    subst hP hw hK
    obtain ⟨⟨old, he⟩, hit, hne⟩ := st
    obtain ⟨xs, x, hq, hx⟩ := hg
    obtain ⟨its, rv, p, hz⟩ := I.tuple hq
    obtain ⟨u, hu, ru⟩ := rv.get hx
    have hel : e < s.heap.objs.size := Heap.lt_size he
    have hil : it < s.heap.objs.size := by obtain ⟨_, q, _⟩ := hit; exact Heap.lt_size q
    have tt : s.heap.IsTuple a its.toArray := p
    have hhd : X.A.in1.handled = none := I.ok.hd hc
    have ane : a ≠ it := fun z => by
      obtain ⟨o, q1, q2, _⟩ := hit
      obtain ⟨o', r1, r2, _⟩ := tt
      rw [z, q1] at r1
      cases r1
      rw [q2] at r2
      exact absurd (Value.type.inj r2) (by decide)
    have hea : e ≠ a := fun z => by
      obtain ⟨o', r1, r2, _⟩ := tt
      have h1 : s.heap.get? e = _ := he
      rw [z, r1] at h1
      cases h1
      exact absurd (Value.type.inj r2) (by decide)
    have hi : i < its.toArray.size := by
      obtain ⟨h1, _⟩ := List.getElem?_eq_some_iff.mp hu
      simpa using h1
    refine wpAny_pyNext_enum_itemD (Draws.tuple hhd it a ane its.toArray) he ⟨hit, tt⟩ hi hne (by simp [hne, hea]) fun y h' tk hy ho st1 hT hsz hk => ?_
    have ey : y = u := Option.some.inj (hy.symm.trans (by simpa using hu))
    subst ey
    refine ⟨_, rfl, wpAny_letOwnedTupleGo_enum (s := { s with heap := h', toks := tk + 1 }) ho fun h'' he' sb => ?_⟩
    have hT2 : h''.get? s.heap.objs.size = some { cls := .type "tuple", data := .seq #[.int i tk, y] } := (sb.2 _ (Nat.ne_of_gt hel)).trans hT
    have new : ObjOk X.prog X.w (upd H s.heap.objs.size (.tup [.int (i : Nat), x])) h'' s.heap.objs.size (.tup [.int (i : Nat), x]) :=
      ⟨by show 2 ≤ sizeLine; decide, [.int i tk, y], .cons ⟨_, rfl⟩ (.cons ru .nil), ⟨_, hT2, rfl, _, rfl⟩⟩
    have I1 : Inv X pins σ (upd H s.heap.objs.size (.tup [.int (i : Nat), x])) { s with heap := h'', toks := tk + 1 } :=
      I.turnedNew (ch := [e, it]) (fun b ob hb q => (sb.2 b (fun z => hb (by simp [z]))).trans (hk b ob (fun z => hb (by simp [z])) (fun z => hb (by simp [z])) q)) hf (Nat.le_refl _) new
    refine ⟨.ref s.heap.objs.size, _, I1, rfl, ⟨_, x, rfl, I.hok.fresh (Nat.le_refl _), rfl, fun ys hy => by rw [I.tuple_inj hy hq]; exact hx⟩, ⟨⟨y, ?_⟩, st1.1.at fun o q => (sb.2 it (Ne.symm hne)).trans q, hne⟩, fun b hb => ?_⟩
    · rw [show ((i + 1 : Nat) : Int) = (i : Int) + 1 by omega]
      exact he'
    · have lt : b < s.heap.objs.size := by
        rcases (show b = e ∨ b = it by simpa using hb) with z | z
        · rw [z]; exact hel
        · rw [z]; exact hil
      rw [upd_ne (Nat.ne_of_lt lt)]
      exact (hf b hb).1
  done := by
    intro X hP hw hK hc i pins s σ H E I hf st hg
    subst hP hw hK
    obtain ⟨⟨old, he⟩, hit, hne⟩ := st
    obtain ⟨xs, hq, hx⟩ := hg
    obtain ⟨its, rv, p, hz⟩ := I.tuple hq
    obtain ⟨f0, f1, f2, f3, f4, f5⟩ := hf it (by simp)
    have tt : s.heap.IsTuple a its.toArray := p
    have hhd : X.A.in1.handled = none := I.ok.hd hc
    have hT : s.TypeIs (.ref e) "enumerate" := ⟨_, he, rfl⟩
    have gone : its.toArray[i]? = none := by
      have hl := rv.length
      simp
      omega
    unfold pyNext
    refine wpAny_bind (wpAny_attempt (wpAny_callSpecial?_slot (name := Str.ofString "__next__") hT F.slot_enumerate_next (wpAny_call_entry F.slot_enumerate_next hT F.entry_enumerate_next ?_ (F.args_enumerate_next_1 _))))
    show wpAny _ _ (field (.ref e) 2 >>= _) _ _ _
    refine wpAny_bind (wpAny_field he rfl (x := .ref it) rfl ?_)
    refine wpAny_bind (wpAny_nextOf_tuple_end hhd hit tt gone fun h' x he' hx' => ?_)
    obtain ⟨o, ho, hcl⟩ := hx'
    refine wpAny_bind (wpAny_isInstance (T := "StopIteration") (b := true) ⟨o, ho, hcl⟩ isSubtype_stop ?_)
    exact wpAny_pure ⟨rfl, I.turned (t' := s.toks) (fun b o hb q => he' b o hb q) f0 f1 f3 f4 f5⟩
  self := fun A i s Q E st h => let ⟨⟨_, he⟩, _⟩ := st; wpAny_pyIter_enum he h
def iEnumT (K : PySem.W.Frag) (ta : TA) : TI := fun σ H R => ta σ H fun vs H1 => ∃ a xs, vs = [.ref a] ∧ SqT K H1 a xs ∧ R (IteT K a) H1
theorem pi_enumT {X : Cx} {e : Expr} {ta : TA} {p pos tpos : Pos} {elts : List Expr} {kk : Nat} (hg : Gl X "enumerate") (hm : X.mg "enumerate" = none) (ha : PA X [e] ta) (hs : starEach [e] X.env = [(false, eval e X.env)] := by rfl) :
    PI X (.Tuple elts kk tpos) (.Call (.Name "enumerate" p) [e] [] pos) (iEnumT X.K ta) := by
  refine ⟨fun pins s σ H R I h => ?_⟩
  refine Call_ (ld_blt I hg hm boot_enumerate (PyProof.Rows.callWith_type1 (thn (ha.run pos pins s σ H _ I h) fun us s1 ⟨vs, H1, I1, r1, a, xs, ex, hq, q⟩ => ?_) hs rfl))
  subst ex
  cases r1 with
  | cons r rr =>
    cases rr
    cases r
    obtain ⟨its, rv, p', hz⟩ := I1.tuple hq
    have tt : s1.heap.IsTuple a its.toArray := p'
    refine enumT_call tt fun h' he hit hsz hk => wpAny_pyIter_enum he ?_
    refine ⟨s1.heap.objs.size + 1, [s1.heap.objs.size + 1, s1.heap.objs.size], _, _, H1, rfl, I1.kept (t' := s1.toks) hk, turn_enumT a (s1.heap.objs.size + 1) s1.heap.objs.size, ⟨⟨.none, he⟩, hit, Nat.succ_ne_self _⟩, fun b hb => ?_, q⟩
    have le : s1.heap.objs.size ≤ b := by
      rcases (show b = s1.heap.objs.size + 1 ∨ b = s1.heap.objs.size by simpa using hb) with z | z
      · rw [z]; exact Nat.le_add_right _ _
      · rw [z]; exact Nat.le_refl _
    exact I1.fpOk le (I1.hok.fresh le)
end L2
namespace Oh
open PySem PySem.Spec PyProof.Rows L2
/-- a text that is, or is not, a key of a written dict -/
def rKdNotIn (K : PySem.W.Frag) (w : World) : R2 := fun x y H Q => ∃ p z, x = .str z ∧ y = .ref p ∧ ((∃ v, KDct K w p z v ∧ (p == sysModules) = false ∧ Q (.bl false) H) ∨ (KMiss K w p z ∧ Q (.bl true) H))
theorem op_kdNotIn {X : Cx} : OpR X (compareOp .NotIn) (rKdNotIn X.K X.w) := by
  intro pins s σ H x y v u Q I rx ry h
  obtain ⟨p, z, rfl, rfl, h⟩ := h
  obtain ⟨t, rfl⟩ := (show ∃ t, v = Value.str z t from rx)
  obtain rfl : u = Value.ref p := ry
  rcases h with ⟨r, kd, lo, q⟩ | ⟨⟨es, n, hl, hk, lo, hm⟩, q⟩
  · obtain ⟨es, n, u0, hl, hk, e, ru⟩ := kd
    have hm := PySem.W.mapOf_K (prog := X.prog) (w := X.w) I.kIn hl hk
    refine wpAny_notIn_of (strKind_is X.prog X.w z t) lo hm ?_
    rw [PySem.W.find_K hl e]
    exact ⟨.bl false, H, I.tok _, rfl, q⟩
  · have hm' := PySem.W.mapOf_K (prog := X.prog) (w := X.w) I.kIn hl hk
    refine wpAny_notIn_of (strKind_is X.prog X.w z t) lo hm' ?_
    rw [PySem.W.find_K hl hm]
    exact ⟨.bl true, H, I.tok _, rfl, q⟩
end Oh
namespace Oh
open PySem PySem.Spec PyProof.Rows L2
abbrev sIsBlock : Stmt := top 13
abbrev sHeadOf : Stmt := top 14
abbrev sIsStatement : Stmt := top 16
abbrev sIsWord : Stmt := top 25
abbrev sBlocksOf : Stmt := top 27
abbrev sFirstWrong : Stmt := top 32
abbrev sIsWrong : Stmt := top 33
abbrev sDeals : Stmt := top 34
abbrev sIsSound : Stmt := top 35
abbrev sCount : Stmt := top 38
abbrev sLaid : Stmt := top 39
abbrev sCheck : Stmt := top 47
theorem pe_never {X : Cx} {e : Expr} : PE X e (fun _ _ _ => False) := ⟨fun _ _ _ _ _ _ h => h.elim⟩
theorem walk_enumT {K : PySem.W.Frag} {a : Addr} {xs : List V} : Walk (IteT K a) xs.length (fun H => SqT K H a xs) (YPair (fun i => some (.int (i : Nat))) (fun i => xs[i]?)) := by
  refine ⟨fun i _ hi q => ⟨xs, xs[i], q, by simp [hi]⟩, fun _ q => ⟨xs, q, Nat.le_refl _⟩, fun i H v H' _ q y => ?_⟩
  obtain ⟨T, x, h1, h2, h3, h4⟩ := y
  exact ⟨T, .int (i : Nat), x, h1, h2, h3, rfl, h4 xs q⟩
/-- the statement ("home",), at S -/
def HomeS (H : Hp) (S : Addr) : Prop := H S = some (.tup [.str "home"])
/-- the block of it alone, at B -/
def HomeB (H : Hp) (B S : Addr) : Prop := H B = some (.tup [.ref S]) ∧ HomeS H S
theorem HomeB.keep {H H' : Hp} {B S : Addr} (h : HomeB H B S) (s : Same H H') : HomeB H' B S := ⟨s _ _ h.1, s _ _ h.2⟩
/-- is_block: of a tuple, of a list -/
def spIsBlock : Sp := fun vs H Q _ => ∃ p, vs = [.ref p] ∧ ((∃ xs, H p = some (.tup xs) ∧ xs.length ≤ 12 ∧ Q (.bl true) H) ∨ ∃ xs, H p = some (.lst xs) ∧ Q (.bl false) H)
structure TxtP (mg : Str → Option Value) : Prop extends TxtI mg where
  longest : ∃ t, mg "LONGEST_BLOCK" = some (.int 12 t)
  deepest : ∃ t, mg "DEEPEST_BLOCK" = some (.int 12 t)
  most : ∃ t, mg "MOST_STATEMENTS" = some (.int 6000 t)
  sum : mg "sum" = none
  enum : mg "enumerate" = none
section
variable {P : Program} {w : World} {K : PySem.W.Frag} {mg : Str → Option Value} {base : Heap}
theorem scIsBlock : FnScope ["value"] ["value"] (defScope sIsBlock) := ⟨rfl, rfl, rfl, by decide +kernel, rfl, by decide +kernel, by decide +kernel⟩
theorem ok_isBlock {f : Addr} {fd : FuncData} (F : Fun K "is_block" "is_block" sIsBlock f fd) (T : TxtP mg) : FnOk P w K mg base CX0 1 f fd ["value"] spIsBlock := by
  refine F.ok scIsBlock (fun vs H Q E h => ?_) (fun cdv A outer s H vs Q E hr h => ?_)
  · obtain ⟨p, rfl, _⟩ := h
    rfl
  · obtain ⟨p, rfl, h⟩ := h
    obtain ⟨t, ml⟩ := T.longest
    refine ⟨_, pss_one (ps_ret (pe_and (pe_isi (pv 0) mono_var T.isi T.tuple bb_tuple) (pe_one (pe_cmpR op_le (pe_callB call_len_seq (by rfl) T.len boot_len (pa_cons (pv 0) pa_nil)) (pe_glob (v := .int 12) (by rfl) ml ⟨t, rfl⟩) (nomark _))))), ?_⟩
    rcases h with ⟨xs, hp, hl, q⟩ | ⟨xs, hp, q⟩
    · refine ⟨_, rfl, _, _, .base (.tup hp), kitYes (by decide +kernel), _, rfl, iteT ⟨_, rfl, p, xs, rfl, .inr (SqT.of hp), _, _, rfl, rfl, ?_⟩⟩
      show Q (.bl (decide ((xs.length : Int) ≤ 12))) H
      rw [show decide ((xs.length : Int) ≤ 12) = true from decide_eq_true (by omega)]
      exact q
    · exact ⟨_, rfl, _, _, .base (.lst hp), kitNo (by decide +kernel), _, rfl, iteF q⟩
def spHeadOf : Sp := fun vs H Q _ => ∃ S, vs = [.ref S] ∧ HomeS H S ∧ Q (.str "home") H
theorem scHeadOf : FnScope ["value"] ["value"] (defScope sHeadOf) := ⟨rfl, rfl, rfl, by decide +kernel, rfl, by decide +kernel, by decide +kernel⟩
theorem ok_headOf {f : Addr} {fd : FuncData} (F : Fun K "head_of" "head_of" sHeadOf f fd) (T : TxtP mg) : FnOk P w K mg base CX0 1 f fd ["value"] spHeadOf := by
  refine F.ok scHeadOf (fun vs H Q E h => ?_) (fun cdv A outer s H vs Q E hr h => ?_)
  · obtain ⟨p, rfl, _⟩ := h
    rfl
  · obtain ⟨S, rfl, hS, k⟩ := h
    have hS : H S = some (.tup [.str "home"]) := hS
    refine ⟨_, pss_cons (ps_if (pw_and (pt_val (pe_isi (pv 0) mono_var T.isi T.tuple bb_tuple)) (pw_and (pt_cmpR op_gt (pe_callB call_len_seq (by rfl) T.len boot_len (pa_cons (pv 0) pa_nil)) pe_int (nomark _))
        (pw_and1 (pt_val (pe_isi (pe_ix ix_tup (pv 0) pe_int (fun _ _ => rfl)) (fun σ H Q Q' wk ⟨v, e, p, xs, i, y, a, b, c, d, q⟩ => ⟨v, e, p, xs, i, y, a, b, c, d, wk _ _ q⟩) T.isi T.str bb_str))))).pt (pss_one (ps_ret (pe_ix ix_tup (pv 0) pe_int (fun _ _ => rfl)))) pss_nil)
      (pss_one (ps_ret pe_str)), ?_⟩
    refine ⟨_, rfl, _, _, .base (.tup hS), kitYes (by decide +kernel), _, rfl, iteT ?_⟩
    refine ⟨_, rfl, S, _, rfl, .inr (SqT.of hS), _, _, rfl, rfl, _, rfl, ite2 (fun _ => ?_) (fun z => absurd (by decide) z)⟩
    refine ⟨_, rfl, S, _, _, _, rfl, rfl, SqT.of hS, rfl, _, _, .base (.str _), kitYes (by decide +kernel), _, rfl, iteT ?_⟩
    exact ⟨_, rfl, S, _, _, _, rfl, rfl, SqT.of hS, rfl, k⟩
def spTrueS : Sp := fun vs H Q _ => ∃ S, vs = [.ref S] ∧ HomeS H S ∧ Q (.bl true) H
theorem scIsWord : FnScope ["value"] ["value"] (defScope sIsWord) := ⟨rfl, rfl, rfl, by decide +kernel, rfl, by decide +kernel, by decide +kernel⟩
theorem ok_isWord {f : Addr} {fd : FuncData} (F : Fun K "_is_word" "_is_word" sIsWord f fd) (T : TxtP mg) : FnOk P w K mg base CX0 1 f fd ["value"] spTrueS := by
  refine F.ok scIsWord (fun vs H Q E h => ?_) (fun cdv A outer s H vs Q E hr h => ?_)
  · obtain ⟨p, rfl, _⟩ := h
    rfl
  · obtain ⟨S, rfl, hS, k⟩ := h
    refine ⟨_, pss_one (ps_ret (pe_cmpR op_eq (pe_callB call_len_seq (by rfl) T.len boot_len (pa_cons (pv 0) pa_nil)) pe_int (nomark _))), ?_⟩
    exact ⟨_, rfl, S, _, rfl, .inr (SqT.of hS), rfl, k⟩
theorem scIsStatement : FnScope ["value", "head", "check"] ["value"] (defScope sIsStatement) := ⟨rfl, rfl, rfl, by decide +kernel, rfl, by decide +kernel, by decide +kernel⟩
theorem ok_isStatement {f fH fW ck : Addr} {fd fdH fdW : FuncData} (F : Fun K "is_statement" "is_statement" sIsStatement f fd) (T : TxtP mg) (FH : Fun K "head_of" "head_of" sHeadOf fH fdH) (bH : Binds K fdH ["value"] []) (mH : mg "head_of" = some (.ref fH))
    (FW : Fun K "_is_word" "_is_word" sIsWord fW fdW) (bW : Binds K fdW ["value"] []) (mC : mg "CHECKS" = some (.ref ck)) (kd : KDct K w ck "home" (.ref fW)) (lo : (ck == sysModules) = false) : FnOk P w K mg base CX0 2 f fd ["value"] spTrueS := by
  have GH : FnOk P w K mg base CX0 1 fH fdH ["value"] spHeadOf := ok_headOf FH T
  have GW : FnOk P w K mg base CX0 1 fW fdW ["value"] spTrueS := ok_isWord FW T
  refine F.ok scIsStatement (fun vs H Q E h => ?_) (fun cdv A outer s H vs Q E hr h => ?_)
  · obtain ⟨p, rfl, _⟩ := h
    rfl
  · obtain ⟨S, rfl, hS, k⟩ := h
    refine ⟨_, pss_cons (ps_set (i := 1) scIsStatement.nd rfl (Or.inl rfl) (pe_call GH hr (by rfl) mH FH.kp bH .nil pass0 (pa_cons (pv 0) pa_nil)))
      (pss_cons (ps_if (pt_cmpR op_kdNotIn (pv 1) (pe_glob (v := .ref ck) (by rfl) mC rfl) (by rfl)) (pss_one (ps_ret pe_bl)) pss_nil)
      (pss_cons (ps_set (i := 2) scIsStatement.nd rfl (Or.inl rfl) (pe_ix ix_kdict (pe_glob (v := .ref ck) (by rfl) mC rfl) (pv 1) (fun _ _ => rfl)))
      (pss_one (ps_ret (pe_callL (i := 2) GW hr rfl (Or.inl rfl) FW.kp bW .nil pass0 (pa_cons (pv 0) pa_nil)))))), ?_⟩
    refine ⟨_, rfl, S, rfl, hS, ?_⟩
    refine ⟨_, rfl, ck, _, rfl, rfl, .inl ⟨_, kd, lo, _, rfl, iteF ?_⟩⟩
    refine ⟨_, rfl, ck, _, _, rfl, rfl, kd, ?_⟩
    exact ⟨rfl, _, rfl, S, rfl, hS, k⟩
def spBlocksOf : Sp := fun vs H Q _ => ∃ S, vs = [.ref S] ∧ HomeS H S ∧ ∀ p H', Same H H' → H p = none → H' p = some (.lst []) → Q (.ref p) H'
theorem scBlocksOf : FnScope ["statement", "head", "row"] ["statement"] (defScope sBlocksOf) := ⟨rfl, rfl, rfl, by decide +kernel, rfl, by decide +kernel, by decide +kernel⟩
theorem ok_blocksOf {f : Addr} {fd : FuncData} (F : Fun K "blocks_of" "blocks_of" sBlocksOf f fd) (T : TxtP mg) : FnOk P w K mg base CX0 1 f fd ["statement"] spBlocksOf := by
  refine F.ok scBlocksOf (fun vs H Q E h => ?_) (fun cdv A outer s H vs Q E hr h => ?_)
  · obtain ⟨p, rfl, _⟩ := h
    rfl
  · obtain ⟨S, rfl, hS, k⟩ := h
    refine ⟨_, pss_cons (ps_set (i := 1) scBlocksOf.nd rfl (Or.inl rfl) (pe_ix ix_tup (pv 0) pe_int (fun _ _ => rfl)))
      (pss_cons (ps_if (pt_cmpR op_eq (pv 1) pe_str (nomark _)) pss_never pss_nil)
      (pss_cons (ps_if (pt_cmpR op_eq (pv 1) pe_str (nomark _)) pss_never pss_nil)
      (pss_cons (ps_if (pt_cmpR op_eq (pv 1) pe_str (nomark _)) pss_never pss_nil)
      (pss_cons (ps_if (pt_cmpR op_eq (pv 1) pe_str (nomark _)) pss_never pss_nil)
      (pss_one (ps_ret (pe_lst pa_nil))))))), ?_⟩
    refine ⟨_, rfl, S, _, _, _, rfl, rfl, SqT.of hS, rfl, ?_⟩
    refine ⟨_, rfl, rfl, _, rfl, ite2 (fun z => absurd z (by decide)) fun _ => ?_⟩
    refine ⟨_, rfl, rfl, _, rfl, ite2 (fun z => absurd z (by decide)) fun _ => ?_⟩
    refine ⟨_, rfl, rfl, _, rfl, ite2 (fun z => absurd z (by decide)) fun _ => ?_⟩
    refine ⟨_, rfl, rfl, _, rfl, ite2 (fun z => absurd z (by decide)) fun _ => ?_⟩
    exact ⟨by decide, fun p np => k p _ (Same.new np) np upd_same⟩
def spSound (n : Nat) (b : Bool) : Sp := fun vs H Q _ => ∃ S, vs = [.ref S, .int 1] ++ (if n = 3 then [.bl false] else []) ∧ HomeS H S ∧ ∀ H', Same H H' → Q (.bl b) H'
theorem scIsSound : FnScope ["item", "depth"] ["item", "depth"] (defScope sIsSound) := ⟨rfl, rfl, rfl, by decide +kernel, rfl, by decide +kernel, by decide +kernel⟩
theorem ok_isSound {f fS : Addr} {fd fdS : FuncData} (F : Fun K "_is_sound" "_is_sound" sIsSound f fd) (T : TxtP mg) (GS : FnOk P w K mg base CX0 2 fS fdS ["value"] spTrueS) (kS : PySem.W.keepIn K (.ref fS) = true) (bS : Binds K fdS ["value"] []) (mS : mg "is_statement" = some (.ref fS)) :
    FnOk P w K mg base CX0 3 f fd ["item", "depth"] (spSound 2 true) := by
  refine F.ok scIsSound (fun vs H Q E h => ?_) (fun cdv A outer s H vs Q E hr h => ?_)
  · obtain ⟨p, rfl, _⟩ := h
    rfl
  · obtain ⟨S, rfl, hS, k⟩ := h
    obtain ⟨t, md⟩ := T.deepest
    refine ⟨_, pss_one (ps_ret (pe_and (pe_call GS hr (by rfl) mS kS bS .nil pass0 (pa_cons (pv 0) pa_nil)) (pe_one (pe_or (pe_cmpR op_lt (pv 1) (pe_glob (v := .int 12) (by rfl) md ⟨t, rfl⟩) (nomark _)) (pe_one pe_never))))), ?_⟩
    refine ⟨_, rfl, S, rfl, hS, _, rfl, iteT ⟨_, rfl, _, _, rfl, rfl, _, rfl, iteT ?_⟩⟩
    exact k H (Same.refl H)
theorem scIsWrong : FnScope ["item", "depth", "in_repeat"] ["item", "depth", "in_repeat"] (defScope sIsWrong) := ⟨rfl, rfl, rfl, by decide +kernel, rfl, by decide +kernel, by decide +kernel⟩
theorem ok_isWrong {f fS : Addr} {fd fdS : FuncData} (F : Fun K "_is_wrong" "_is_wrong" sIsWrong f fd) (T : TxtP mg) (GS : FnOk P w K mg base CX0 3 fS fdS ["item", "depth"] (spSound 2 true)) (kS : PySem.W.keepIn K (.ref fS) = true) (bS : Binds K fdS ["item", "depth"] []) (mS : mg "_is_sound" = some (.ref fS)) :
    FnOk P w K mg base CX0 4 f fd ["item", "depth", "in_repeat"] (spSound 3 false) := by
  refine F.ok scIsWrong (fun vs H Q E h => ?_) (fun cdv A outer s H vs Q E hr h => ?_)
  · obtain ⟨p, rfl, _⟩ := h
    rfl
  · obtain ⟨S, rfl, hS, k⟩ := h
    refine ⟨_, pss_cons (ps_if (pt_not (pt_val (pe_call GS hr (by rfl) mS kS bS .nil pass0 (pa_cons (pv 0) (pa_cons (pv 1) pa_nil))))) (pss_one (ps_ret pe_bl)) pss_nil)
      (pss_cons (ps_if (pt_cmpR op_eq (pe_ix ix_tup (pv 0) pe_int (fun _ _ => rfl)) pe_str (nomark _)) pss_never pss_nil)
      (pss_one (ps_ret (pe_and (pe_cmpR op_eq (pe_ix ix_tup (pv 0) pe_int (fun _ _ => rfl)) pe_str (nomark _)) (pe_one pe_never))))), ?_⟩
    refine ⟨_, rfl, _, rfl, S, rfl, hS, fun H1 s1 => ⟨_, rfl, iteF ?_⟩⟩
    have h1 : H1 S = some (.tup [.str "home"]) := s1 _ _ hS
    refine ⟨_, rfl, S, _, _, _, rfl, rfl, SqT.of h1, rfl, rfl, _, rfl, ite2 (fun z => absurd z (by decide)) fun _ => ?_⟩
    refine ⟨_, rfl, S, _, _, _, rfl, rfl, SqT.of h1, rfl, rfl, _, rfl, ite2 (fun z => absurd z (by decide)) fun _ => ?_⟩
    exact k H1 s1
end
end Oh
/-! The checks of forms at any value: a tree of what the program looks at. -/
namespace Oh
open PySem PySem.Spec PyProof.Rows L2
abbrev sIsInteger : Stmt := top 9
abbrev sIsDigit : Stmt := top 10
abbrev sIsName : Stmt := top 11
abbrev sIsExpr : Stmt := top 15
abbrev sSetTell : Stmt := top 17
abbrev sIsHear : Stmt := top 18
abbrev sIsWait : Stmt := top 19
abbrev sIsRow : Stmt := top 20
abbrev sIsOpen : Stmt := top 21
abbrev sIsChoice : Stmt := top 22
abbrev sIsIf : Stmt := top 23
abbrev sIsRepeat : Stmt := top 24
/-- a value as the program sees it; oth: a list, a dict, an object -/
inductive DT where
  | non
  | bl (b : Bool)
  | int (i : Int)
  | str (s : Str)
  | tup (l : List DT)
  | oth
/-- an own class whose objects are none of these kinds -/
structure OthC (K : PySem.W.Frag) (C : Addr) : Prop where
  cl : Cls K C
  ha : PySem.W.findIn K (.ref C) "__class__" = some (some (.builtin "object.__class__"))
  hn : PySem.W.specialIn K (.builtin "object.__class__") "__get__" = some (some (.builtin "getset_descriptor.__get__"))
  ht : PySem.W.takesIn K (.builtin "object.__class__") = some true
  hm : PySem.W.mroIn K C (.type "object") = some true
  ki : PySem.W.kitOne K (.ref C) (.type "int") = some false
  kb : PySem.W.kitOne K (.ref C) (.type "bool") = some false
  ks : PySem.W.kitOne K (.ref C) (.type "str") = some false
  kt : PySem.W.kitOne K (.ref C) (.type "tuple") = some false
mutual
inductive Rp (K : PySem.W.Frag) (H : Hp) : V → DT → Prop
  | non : Rp K H .non .non
  | bl (b : Bool) : Rp K H (.bl b) (.bl b)
  | int (i : Int) : Rp K H (.int i) (.int i)
  | str {s : Str} : s.length ≤ 1000 → Rp K H (.str s) (.str s)
  | tup {p : Addr} {xs : List V} {l : List DT} : H p = some (.tup xs) → RpAll K H xs l → Rp K H (.ref p) (.tup l)
  | lst {p : Addr} {xs : List V} : H p = some (.lst xs) → Rp K H (.ref p) .oth
  | dct {p : Addr} {kvs : List (L2.Key × V)} : H p = some (.dK kvs) → Rp K H (.ref p) .oth
  | ins {p C dx : Addr} {fs : List (Str × V)} : H p = some (.ins C dx fs) → OthC K C → Rp K H (.ref p) .oth
inductive RpAll (K : PySem.W.Frag) (H : Hp) : List V → List DT → Prop
  | nil : RpAll K H [] []
  | cons {v : V} {vs : List V} {d : DT} {ds : List DT} : Rp K H v d → RpAll K H vs ds → RpAll K H (v :: vs) (d :: ds)
end
mutual
theorem Rp.keep {K : PySem.W.Frag} {H H' : Hp} (s : Same H H') : ∀ {v : V} {d : DT}, Rp K H v d → Rp K H' v d
  | _, _, .non => .non
  | _, _, .bl b => .bl b
  | _, _, .int i => .int i
  | _, _, .str z => .str z
  | _, _, .tup e r => .tup (s _ _ e) (RpAll.keep s r)
  | _, _, .lst e => .lst (s _ _ e)
  | _, _, .dct e => .dct (s _ _ e)
  | _, _, .ins e c => .ins (s _ _ e) c
theorem RpAll.keep {K : PySem.W.Frag} {H H' : Hp} (s : Same H H') : ∀ {vs : List V} {ds : List DT}, RpAll K H vs ds → RpAll K H' vs ds
  | _, _, .nil => .nil
  | _, _, .cons h t => .cons (Rp.keep s h) (RpAll.keep s t)
end
theorem RpAll.len {K : PySem.W.Frag} {H : Hp} : ∀ {vs : List V} {ds : List DT}, RpAll K H vs ds → vs.length = ds.length
  | _, _, .nil => rfl
  | _, _, .cons _ t => congrArg Nat.succ t.len
theorem RpAll.get {K : PySem.W.Frag} {H : Hp} : ∀ {vs : List V} {ds : List DT} {i : Nat} {d : DT}, RpAll K H vs ds → ds[i]? = some d → ∃ v, vs[i]? = some v ∧ Rp K H v d
  | _, _, i, d, .nil, h => by simp at h
  | _, _, 0, d, .cons (v := v) h1 _, h => by
    obtain rfl := Option.some.inj h
    exact ⟨v, rfl, h1⟩
  | _, _, i + 1, d, .cons _ t, h => RpAll.get (i := i) t h
def isB (d : DT) (T : String) : Bool := match d with
  | .bl _ => T == "bool" || T == "int"
  | .int _ => T == "int"
  | .str _ => T == "str"
  | .tup _ => T == "tuple"
  | _ => false
/-- isinstance of such a value, one of four built-in classes -/
theorem isi_of {K : PySem.W.Frag} {H : Hp} {v : V} {d : DT} (r : Rp K H v d) {T : String} (hT : T = "int" ∨ T = "bool" ∨ T = "str" ∨ T = "tuple") : ∃ t, TyX K H v t ∧ PySem.W.kitOne K t (.type T) = some (isB d T) := by
  cases r with
  | non => exact ⟨_, .base .non, by rcases hT with rfl | rfl | rfl | rfl <;> exact kit_ty (by kernel_rfl)⟩
  | bl b => exact ⟨_, .base (.bl b), by rcases hT with rfl | rfl | rfl | rfl <;> exact kit_ty (by kernel_rfl)⟩
  | int i => exact ⟨_, .base (.int i), by rcases hT with rfl | rfl | rfl | rfl <;> exact kit_ty (by kernel_rfl)⟩
  | @str z _ => exact ⟨_, .base (.str z), by rcases hT with rfl | rfl | rfl | rfl <;> exact kit_ty (by kernel_rfl)⟩
  | tup e _ => exact ⟨_, .base (.tup e), by rcases hT with rfl | rfl | rfl | rfl <;> exact kit_ty (by kernel_rfl)⟩
  | lst e => exact ⟨_, .base (.lst e), by rcases hT with rfl | rfl | rfl | rfl <;> exact kit_ty (by kernel_rfl)⟩
  | dct e => exact ⟨_, .base (.dK e), by rcases hT with rfl | rfl | rfl | rfl <;> exact kit_ty (by kernel_rfl)⟩
  | ins e c =>
    refine ⟨_, .base (.ins e c.cl c.ha c.hn c.ht c.hm), ?_⟩
    rcases hT with rfl | rfl | rfl | rfl
    · exact c.ki
    · exact c.kb
    · exact c.ks
    · exact c.kt
/-! ### the mirrors -/
def intB (d : DT) : Bool := match d with
  | .int _ => true
  | _ => false
def digitB (d : DT) : Bool := match d with
  | .int i => decide (0 ≤ i) && decide (i ≤ 9)
  | _ => false
def keptV : List V := ([ "set", "tell", "hear", "wait", "on", "open", "or", "if", "else", "repeat", "leave", "home", "fail", "end", "plus", "minus", "same", "less", "not", "routine", "own", "over"] : List Str).map V.str
def signB (c : Nat) : Bool := !decide ([c] < [97]) && !decide ([122] < [c])
def nameB (d : DT) : Bool := match d with
  | .str s => decide (1 ≤ s.length) && decide (s.length ≤ 8) && (!inV (.str s) keptV && (s.cps.toList.map signB).all id)
  | _ => false
def headB (d : DT) : Str := match d with
  | .tup (.str h :: _) => h
  | _ => ""
def blockB (d : DT) : Bool := match d with
  | .tup l => decide (l.length ≤ 12)
  | _ => false
def choiceB (d : DT) : Bool := match d with
  | .tup l => decide (1 ≤ l.length) && decide (l.length ≤ 4)
  | _ => false
/-- what a check promises: the answer, the heap as it was but for new things -/
def spB (K : PySem.W.Frag) (f : DT → Bool) : Sp := fun vs H Q _ => ∃ v d, vs = [v] ∧ Rp K H v d ∧ ∀ H', Same H H' → Q (.bl (f d)) H'
section
variable {P : Program} {w : World} {K : PySem.W.Frag} {mg : Str → Option Value} {base : Heap}
theorem scIsInteger : FnScope ["value"] ["value"] (defScope sIsInteger) := ⟨rfl, rfl, rfl, by decide +kernel, rfl, by decide +kernel, by decide +kernel⟩
theorem ok_isInteger {f : Addr} {fd : FuncData} (F : Fun K "is_integer" "is_integer" sIsInteger f fd) (T : TxtI mg) : FnOk P w K mg base CX0 1 f fd ["value"] (spB K intB) := by
  refine F.ok scIsInteger (fun vs H Q E h => ?_) (fun cdv A outer s H vs Q E hr h => ?_)
  · obtain ⟨v, d, rfl, _⟩ := h
    rfl
  · obtain ⟨v, d, rfl, r, k⟩ := h
    obtain ⟨t1, y1, z1⟩ := isi_of r (.inl rfl)
    obtain ⟨t2, y2, z2⟩ := isi_of r (.inr (.inl rfl))
    refine ⟨_, pss_one (ps_ret (pe_and (pe_isi (pv 0) mono_var T.isi T.int bb_int) (pe_one (pe_not (pe_isi (pv 0) mono_var T.isi T.bool bb_bool))))), ?_⟩
    refine ⟨_, rfl, t1, _, y1, z1, _, rfl, ?_⟩
    have k0 := k H (Same.refl H)
    cases d with
    | int i => exact iteT ⟨_, rfl, t2, _, y2, z2, _, rfl, k0⟩
    | bl b => exact iteT ⟨_, rfl, t2, _, y2, z2, _, rfl, k0⟩
    | non => exact iteF k0
    | str s => exact iteF k0
    | tup l => exact iteF k0
    | oth => exact iteF k0
theorem scIsDigit : FnScope ["value"] ["value"] (defScope sIsDigit) := ⟨rfl, rfl, rfl, by decide +kernel, rfl, by decide +kernel, by decide +kernel⟩
theorem ok_isDigit {f fI : Addr} {fd fdI : FuncData} (F : Fun K "is_digit" "is_digit" sIsDigit f fd) (GI : FnOk P w K mg base CX0 1 fI fdI ["value"] (spB K intB)) (kI : PySem.W.keepIn K (.ref fI) = true) (bI : Binds K fdI ["value"] []) (mI : mg "is_integer" = some (.ref fI)) :
    FnOk P w K mg base CX0 2 f fd ["value"] (spB K digitB) := by
  refine F.ok scIsDigit (fun vs H Q E h => ?_) (fun cdv A outer s H vs Q E hr h => ?_)
  · obtain ⟨v, d, rfl, _⟩ := h
    rfl
  · obtain ⟨v, d, rfl, r, k⟩ := h
    refine ⟨_, pss_one (ps_ret (pe_and (pe_call GI hr (by rfl) mI kI bI .nil pass0 (pa_cons (pv 0) pa_nil)) (pe_one (pe_chain op_le op_le pe_int (pv 0) pe_int)))), ?_⟩
    refine ⟨_, rfl, v, d, rfl, r, fun H1 s1 => ⟨_, rfl, ?_⟩⟩
    have k0 := k H1 s1
    cases d with
    | int i =>
      cases r
      refine iteT ⟨_, rfl, _, _, rfl, rfl, _, rfl, ?_⟩
      show if decide (0 ≤ i) = true then _ else _
      by_cases c : 0 ≤ i
      · rw [if_pos (decide_eq_true c)]
        refine ⟨_, _, rfl, rfl, ?_⟩
        have e : digitB (.int i) = decide (i ≤ 9) := by show (decide (0 ≤ i) && decide (i ≤ 9)) = _; rw [decide_eq_true c]; rfl
        rw [e] at k0
        exact k0
      · rw [if_neg (by simpa using c)]
        have e : digitB (.int i) = false := by show (decide (0 ≤ i) && decide (i ≤ 9)) = _; rw [decide_eq_false c]; rfl
        rw [e] at k0
        exact k0
    | bl b => exact iteF k0
    | non => exact iteF k0
    | str s => exact iteF k0
    | tup l => exact iteF k0
    | oth => exact iteF k0
/-- what the top has written: the bounds, the kept words -/
structure TxtF (K : PySem.W.Frag) (mg : Str → Option Value) (kw : Addr) : Prop extends TxtI mg where
  all : mg "all" = none
  longest : ∃ t, mg "LONGEST_NAME" = some (.int 8 t)
  choices : ∃ t, mg "MOST_CHOICES" = some (.int 4 t)
  kept : mg "KEPT_WORDS" = some (.ref kw)
  keptK : ∃ (o : Obj) (its : Array Value) (n : Nat), K.lookup kw = some o ∧ o.cls = .type "tuple" ∧ o.data = .seq its n ∧ its.size ≤ sizeLine ∧ Vals keptV its.toList
theorem boot_allO : bootBuiltins "all" = some (.builtin "all") := by decide +kernel
variable {kw : Addr}
theorem scIsName : FnScope ["value", "sign"] ["value"] (defScope sIsName) := ⟨rfl, rfl, rfl, by decide +kernel, rfl, by decide +kernel, by decide +kernel⟩
theorem ok_isName {f : Addr} {fd : FuncData} (F : Fun K "is_name" "is_name" sIsName f fd) (T : TxtF K mg kw) : FnOk P w K mg base CX0 1 f fd ["value"] (spB K nameB) := by
  refine F.ok scIsName (fun vs H Q E h => ?_) (fun cdv A outer s H vs Q E hr h => ?_)
  · obtain ⟨v, d, rfl, _⟩ := h
    rfl
  · obtain ⟨v, d, rfl, r, k⟩ := h
    obtain ⟨t1, y1, z1⟩ := isi_of r (.inr (.inr (.inl rfl)))
    obtain ⟨t8, m8⟩ := T.longest
    refine ⟨_, pss_cons (ps_if (pw_or (pt_not (pt_val (pe_isi (pv 0) mono_var T.isi T.str bb_str))) (pw_or1 (pt_not (pt_chain op_le op_le pe_int (pe_callB call_len_str (by rfl) T.len boot_len (pa_cons (pv 0) pa_nil)) (pe_glob (v := .int 8) (by rfl) m8 ⟨t8, rfl⟩))))).pt (pss_one (ps_ret pe_bl)) pss_nil)
      (pss_one (ps_ret (pe_and (pe_cmpR op_notIn_seq (pv 0) (pe_glob (v := .ref kw) (by rfl) T.kept rfl) (by rfl)) (pe_one (pe_callB (cr_all rfl) (by rfl) T.all boot_allO (pa_cons
        (pe_lc (own := [("sign", 1)]) (g := gName 1) (tt := tYes) rfl scIsName.nd (pi_str (pv 0)) (blkOk_by (N := ["value", "sign"]) (sc := defScope sIsName) (by decide +kernel)) (fun _ _ _ _ _ => pg_name (i := 1) scIsName.nd rfl (Or.inl rfl)) (fun _ _ _ _ _ => pts_nil)
          (fun _ _ _ _ _ => pe_chain op_le_str op_le_str pe_str (pv 1) pe_str)) pa_nil)))))), ?_⟩
    have k0 := k H (Same.refl H)
    have no : isB d "str" = false → nameB d = false := fun z => by
      cases d <;> first | rfl | (cases z)
    refine ⟨_, rfl, t1, _, y1, z1, _, rfl, ?_⟩
    cases hb : isB d "str" with
    | false =>
      rw [no hb] at k0
      exact iteT k0
    | true =>
      refine iteF ?_
      cases r with
      | str hl =>
        rename_i z
        have hz : z.length ≤ sizeLine := Nat.le_of_lt (small1000 hl)
        refine ⟨_, rfl, z, rfl, hz, _, _, rfl, rfl, _, rfl, ?_⟩
        by_cases c1 : (1 : Int) ≤ z.length
        · rw [if_pos (decide_eq_true c1)]
          refine ⟨_, _, rfl, rfl, _, rfl, ?_⟩
          by_cases c2 : (z.length : Int) ≤ 8
          · rw [decide_eq_true c2]
            refine iteF ?_
            obtain ⟨o, its, n, h1, h2, h3, h4, h5⟩ := T.keptK
            refine ⟨_, rfl, kw, keptV, rfl, .inr (.inr ⟨o, its, n, h1, h2, h3, h4, h5⟩), rfl, (by decide +kernel), _, rfl, ?_⟩
            have e1 : decide (1 ≤ z.length) = true := decide_eq_true (by omega)
            have e2 : decide (z.length ≤ 8) = true := decide_eq_true (by omega)
            have e3 : nameB (.str z) = (!inV (.str z) keptV && (z.cps.toList.map signB).all id) := by
              show (decide (1 ≤ z.length) && decide (z.length ≤ 8) && _) = _
              rw [e1, e2]
              rfl
            show if (!inV (V.str z) keptV) = true then _ else _
            by_cases c3 : (!inV (V.str z) keptV) = true
            · rw [if_pos c3]
              rw [e3, c3, Bool.true_and] at k
              refine ⟨_, rfl, z, rfl, fun D nD => lc_it (walk_str (z := z)) (fun i H' => Same H H' ∧ H' D = some (.lst (((z.cps.toList.map signB).take i).map V.bl))) ⟨Same.new nD, upd_same⟩ (fun _ _ _ _ => trivial) ?_ ?_⟩
              · rintro i x H1 H2 hi ⟨s1, d1⟩ ⟨e, c, ec, ex⟩
                subst e
                subst ex
                have lc : (z.cps.toList.map signB)[i]? = some (signB c) := by
                  rw [List.getElem?_map, Array.getElem?_toList, ec]
                  rfl
                have fin : ∀ b, b = signB c → ∃ acc, H2 D = some (HO.lst acc) ∧ acc.length < sizeLine ∧ Same H (upd H2 D (.lst (acc ++ [V.bl b]))) ∧ upd H2 D (.lst (acc ++ [V.bl b])) D = some (.lst (((z.cps.toList.map signB).take (i + 1)).map V.bl)) := fun b eb => by
                  refine ⟨_, d1, ?_, fun q o e => ?_, ?_⟩
                  · rw [List.length_map, List.length_take]
                    have : i < z.length := hi
                    exact Nat.lt_of_le_of_lt (Nat.min_le_left _ _) (Nat.lt_of_lt_of_le this hz)
                  · rw [upd_ne (ne_of_none e nD)]
                    exact s1 _ _ e
                  · rw [upd_same, eb, List.take_add_one, lc]
                    simp
                refine ⟨rfl, _, rfl, _, _, rfl, rfl, _, rfl, ?_⟩
                show if (!decide ([c] < [97])) = true then _ else _
                by_cases c4 : (!decide ([c] < [97])) = true
                · rw [if_pos c4]
                  refine ⟨_, _, rfl, rfl, fin _ ?_⟩
                  show _ = (!decide ([c] < [97]) && _)
                  rw [c4]
                  rfl
                · rw [if_neg c4]
                  refine fin _ ?_
                  show _ = (!decide ([c] < [97]) && _)
                  rw [Bool.eq_false_iff.mpr c4]
                  rfl
              · rintro H1 ⟨s1, d1⟩
                refine ⟨D, z.cps.toList.map signB, rfl, SqL.of ?_, k H1 s1⟩
                rw [d1, List.take_of_length_le]
                rw [List.length_map]
                exact Nat.le_refl _
            · rw [if_neg c3]
              rw [e3, Bool.eq_false_iff.mpr c3, Bool.false_and] at k0
              exact k0
          · rw [decide_eq_false c2]
            have e2 : nameB (.str z) = false := by
              show (decide (1 ≤ z.length) && decide (z.length ≤ 8) && _) = _
              rw [decide_eq_false (show ¬ z.length ≤ 8 by omega), Bool.and_false, Bool.false_and]
            rw [e2] at k0
            exact iteT k0
        · rw [if_neg (by simpa using c1)]
          have e2 : nameB (.str z) = false := by
            show (decide (1 ≤ z.length) && decide (z.length ≤ 8) && _) = _
            rw [decide_eq_false (show ¬ 1 ≤ z.length by omega), Bool.false_and, Bool.false_and]
          rw [e2] at k0
          exact ⟨_, rfl, iteT k0⟩
      | _ => cases hb
end
end Oh
namespace Oh
open PySem PySem.Spec PyProof.Rows L2
def keyS (e : DictEntry) : Option Str := match e.key with
  | .str x _ => some x
  | _ => none
/-- a dict that the top has written, its keys texts: all of it -/
structure WD (K : PySem.W.Frag) (w : World) (a : Addr) (kvs : List (Str × V)) : Prop where
  ex : ∃ (es : Array DictEntry) (n : Nat), K.lookup a = some ⟨.type "dict", none, .dict es n, #[]⟩ ∧ PySem.W.KeysLit w.params es.toList ∧ es.toList.map keyS = kvs.map fun q => some q.1
  lo : (a == sysModules) = false
  vals : ∀ q ∈ kvs, ∃ u, PySem.W.nsIn K a q.1 = some (some u) ∧ RelV q.2 u
theorem WD.at {K : PySem.W.Frag} {w : World} {a : Addr} {kvs : List (Str × V)} (d : WD K w a kvs) {k : Str} {v : V} (m : (k, v) ∈ kvs) : KDct K w a k v := by
  obtain ⟨es, n, l, kl, _⟩ := d.ex
  obtain ⟨u, e, r⟩ := d.vals _ m
  exact ⟨es, n, u, l, kl, e, r⟩
theorem WD.miss {K : PySem.W.Frag} {w : World} {a : Addr} {kvs : List (Str × V)} (d : WD K w a kvs) {z : Str} (m : z ∉ kvs.map (·.1)) : KMiss K w a z := by
  obtain ⟨es, n, l, kl, hk⟩ := d.ex
  refine ⟨es, n, l, kl, d.lo, ?_⟩
  have key : ∀ e ∈ es.toList, ∃ x t, e.key = .str x t ∧ x ≠ z := fun e me => by
    obtain ⟨x, t, ek, _⟩ := PySem.W.KeysLit.all kl e me
    refine ⟨x, t, ek, fun z' => m ?_⟩
    have q : keyS e ∈ es.toList.map keyS := List.mem_map_of_mem me
    rw [hk] at q
    obtain ⟨p, mp, ep⟩ := List.mem_map.mp q
    unfold keyS at ep
    rw [ek] at ep
    have : p.1 = x := Option.some.inj ep
    exact List.mem_map.mpr ⟨p, mp, this.trans z'⟩
  have f1 : es.toList.find? (fun e => e.key.isStr z) = none := List.find?_eq_none.mpr fun e me => by
    obtain ⟨x, t, ek, ne⟩ := key e me
    rw [ek]
    show ¬ (x == z) = true
    simpa using ne
  have f2 : es.toList.any (fun e => e.refKey) = false := List.any_eq_false.mpr fun e me => by
    obtain ⟨x, t, ek, _⟩ := key e me
    unfold DictEntry.refKey
    rw [ek]
    simp
  unfold PySem.W.nsIn
  rw [l]
  show (match es.toList.find? (fun e => e.key.isStr z) with | some e => some (some e.val) | none => if es.toList.any (fun e => e.refKey) then none else some none) = _
  rw [f1, f2]
  rfl
end Oh
namespace Oh
open PySem PySem.Spec PyProof.Rows L2
def argB (d : DT) (i : Nat) : DT := match d with
  | .tup l => l.getD i .non
  | _ => .non
def lenB (d : DT) : Nat := match d with
  | .tup l => l.length
  | _ => 0
def tailB (d : DT) : List DT := match d with
  | .tup l => l.drop 1
  | _ => []
def partsK : List (Str × V) := [("plus", .int 2), ("minus", .int 2), ("same", .int 2), ("less", .int 2), ("not", .int 1)]
def partsB (h : Str) : Option Nat := if h = "plus" ∨ h = "minus" ∨ h = "same" ∨ h = "less" then some 2 else if h = "not" then some 1 else none
/-- n + 1 levels deep at most -/
def exprB : Nat → DT → Bool
  | 0, d => digitB d || (headB d == "name" && (lenB d == 2 && nameB (argB d 1)))
  | n + 1, d => digitB d || (if headB d == "name" then lenB d == 2 && nameB (argB d 1) else match partsB (headB d) with
    | none => false
    | some p => lenB d == 1 + p && ((tailB d).map (exprB n)).all id)
def spHd (K : PySem.W.Frag) : Sp := fun vs H Q _ => ∃ v d, vs = [v] ∧ Rp K H v d ∧ Q (.str (headB d)) H
section
variable {P : Program} {w : World} {K : PySem.W.Frag} {mg : Str → Option Value} {base : Heap} {kw pk : Addr}
theorem Rp.tup_inv {H : Hp} {v : V} {l : List DT} (r : Rp K H v (.tup l)) : ∃ p xs, v = .ref p ∧ H p = some (.tup xs) ∧ RpAll K H xs l := by
  cases r with
  | tup e a => exact ⟨_, _, rfl, e, a⟩
theorem isTup {d : DT} (h : isB d "tuple" = true) : ∃ l, d = .tup l := by
  cases d <;> first | exact ⟨_, rfl⟩ | cases h
theorem noTup {d : DT} (h : isB d "tuple" = false) : headB d = "" ∧ blockB d = false ∧ choiceB d = false := by
  cases d <;> first | exact ⟨rfl, rfl, rfl⟩ | cases h
theorem ok_headOfD {f : Addr} {fd : FuncData} (F : Fun K "head_of" "head_of" sHeadOf f fd) (T : TxtI mg) : FnOk P w K mg base CX0 1 f fd ["value"] (spHd K) := by
  refine F.ok scHeadOf (fun vs H Q E h => ?_) (fun cdv A outer s H vs Q E hr h => ?_)
  · obtain ⟨v, d, rfl, _⟩ := h
    rfl
  · obtain ⟨v, d, rfl, r, k⟩ := h
    obtain ⟨t1, y1, z1⟩ := isi_of r (.inr (.inr (.inr rfl)))
    refine ⟨_, pss_cons (ps_if (pw_and (pt_val (pe_isi (pv 0) mono_var T.isi T.tuple bb_tuple)) (pw_and (pt_cmpR op_gt (pe_callB call_len_seq (by rfl) T.len boot_len (pa_cons (pv 0) pa_nil)) pe_int (nomark _))
        (pw_and1 (pt_val (pe_isi (pe_ix ix_tup (pv 0) pe_int (fun _ _ => rfl)) (fun σ H Q Q' wk ⟨v, e, p, xs, i, y, a, b, c, d, q⟩ => ⟨v, e, p, xs, i, y, a, b, c, d, wk _ _ q⟩) T.isi T.str bb_str))))).pt (pss_one (ps_ret (pe_ix ix_tup (pv 0) pe_int (fun _ _ => rfl)))) pss_nil)
      (pss_one (ps_ret pe_str)), ?_⟩
    refine ⟨_, rfl, t1, _, y1, z1, _, rfl, ?_⟩
    cases hb : isB d "tuple" with
    | false =>
      rw [(noTup hb).1] at k
      exact iteF k
    | true =>
      refine iteT ?_
      obtain ⟨l, rfl⟩ := isTup hb
      obtain ⟨p, xs, rfl, hp, ra⟩ := r.tup_inv
      refine ⟨_, rfl, p, xs, rfl, .inr (SqT.of hp), _, _, rfl, rfl, _, rfl, ?_⟩
      cases ra with
      | nil => exact ite2 (fun z => absurd z (by decide)) fun _ => k
      | @cons v0 vs0 d0 ds0 r0 ra =>
        refine ite2 (fun _ => ?_) (fun z => absurd (decide_eq_true (show (0 : Int) < ((v0 :: vs0).length : Nat) by rw [List.length_cons]; omega)) z)
        obtain ⟨t2, y2, z2⟩ := isi_of r0 (.inr (.inr (.inl rfl)))
        refine ⟨_, rfl, p, _, _, _, rfl, rfl, SqT.of hp, at_of (j := 0) rfl rfl, t2, _, y2, z2, _, rfl, ?_⟩
        cases r0 with
        | str hl => exact iteT ⟨_, rfl, p, _, _, _, rfl, rfl, SqT.of hp, at_of (j := 0) rfl rfl, k⟩
        | non => exact iteF k
        | bl b => exact iteF k
        | int i => exact iteF k
        | tup _ _ => exact iteF k
        | lst _ => exact iteF k
        | dct _ => exact iteF k
        | ins _ _ => exact iteF k
theorem ok_isBlockD {f : Addr} {fd : FuncData} (F : Fun K "is_block" "is_block" sIsBlock f fd) (T : TxtP mg) : FnOk P w K mg base CX0 1 f fd ["value"] (spB K blockB) := by
  refine F.ok scIsBlock (fun vs H Q E h => ?_) (fun cdv A outer s H vs Q E hr h => ?_)
  · obtain ⟨v, d, rfl, _⟩ := h
    rfl
  · obtain ⟨v, d, rfl, r, k⟩ := h
    have k0 := k H (Same.refl H)
    obtain ⟨t1, y1, z1⟩ := isi_of r (.inr (.inr (.inr rfl)))
    obtain ⟨t, ml⟩ := T.longest
    refine ⟨_, pss_one (ps_ret (pe_and (pe_isi (pv 0) mono_var T.isi T.tuple bb_tuple) (pe_one (pe_cmpR op_le (pe_callB call_len_seq (by rfl) T.len boot_len (pa_cons (pv 0) pa_nil)) (pe_glob (v := .int 12) (by rfl) ml ⟨t, rfl⟩) (nomark _))))), ?_⟩
    refine ⟨_, rfl, t1, _, y1, z1, _, rfl, ?_⟩
    cases hb : isB d "tuple" with
    | false =>
      rw [(noTup hb).2.1] at k0
      exact iteF k0
    | true =>
      refine iteT ?_
      obtain ⟨l, rfl⟩ := isTup hb
      obtain ⟨p, xs, rfl, hp, ra⟩ := r.tup_inv
      refine ⟨_, rfl, p, xs, rfl, .inr (SqT.of hp), _, _, rfl, rfl, ?_⟩
      show Q (.bl (decide ((xs.length : Int) ≤ 12))) H
      have e : decide ((xs.length : Int) ≤ 12) = blockB (.tup l) := by
        show _ = decide (l.length ≤ 12)
        rw [← ra.len]
        by_cases c : xs.length ≤ 12
        · rw [decide_eq_true c, decide_eq_true (by omega)]
        · rw [decide_eq_false c, decide_eq_false (by omega)]
      rw [e]
      exact k0
theorem scIsChoice : FnScope ["value"] ["value"] (defScope sIsChoice) := ⟨rfl, rfl, rfl, by decide +kernel, rfl, by decide +kernel, by decide +kernel⟩
theorem ok_isChoice {f : Addr} {fd : FuncData} (F : Fun K "_is_choice" "_is_choice" sIsChoice f fd) (T : TxtF K mg kw) : FnOk P w K mg base CX0 1 f fd ["value"] (spB K choiceB) := by
  refine F.ok scIsChoice (fun vs H Q E h => ?_) (fun cdv A outer s H vs Q E hr h => ?_)
  · obtain ⟨v, d, rfl, _⟩ := h
    rfl
  · obtain ⟨v, d, rfl, r, k⟩ := h
    have k0 := k H (Same.refl H)
    obtain ⟨t1, y1, z1⟩ := isi_of r (.inr (.inr (.inr rfl)))
    obtain ⟨t, ml⟩ := T.choices
    refine ⟨_, pss_one (ps_ret (pe_and (pe_isi (pv 0) mono_var T.isi T.tuple bb_tuple) (pe_one (pe_chain op_le op_le pe_int (pe_callB call_len_seq (by rfl) T.len boot_len (pa_cons (pv 0) pa_nil)) (pe_glob (v := .int 4) (by rfl) ml ⟨t, rfl⟩))))), ?_⟩
    refine ⟨_, rfl, t1, _, y1, z1, _, rfl, ?_⟩
    cases hb : isB d "tuple" with
    | false =>
      rw [(noTup hb).2.2] at k0
      exact iteF k0
    | true =>
      refine iteT ?_
      obtain ⟨l, rfl⟩ := isTup hb
      obtain ⟨p, xs, rfl, hp, ra⟩ := r.tup_inv
      refine ⟨_, rfl, p, xs, rfl, .inr (SqT.of hp), _, _, rfl, rfl, _, rfl, ?_⟩
      have hl := ra.len
      show if decide ((1 : Int) ≤ xs.length) = true then _ else _
      by_cases c : (1 : Int) ≤ xs.length
      · rw [if_pos (decide_eq_true c)]
        refine ⟨_, _, rfl, rfl, ?_⟩
        have e : choiceB (.tup l) = decide ((xs.length : Int) ≤ 4) := by
          show (decide (1 ≤ l.length) && decide (l.length ≤ 4)) = _
          rw [decide_eq_true (show 1 ≤ l.length by omega), Bool.true_and, ← hl]
          by_cases c2 : xs.length ≤ 4
          · rw [decide_eq_true c2, decide_eq_true (by omega)]
          · rw [decide_eq_false c2, decide_eq_false (by omega)]
        rw [e] at k0
        exact k0
      · rw [if_neg (by simpa using c)]
        have e : choiceB (.tup l) = false := by
          show (decide (1 ≤ l.length) && decide (l.length ≤ 4)) = _
          rw [decide_eq_false (show ¬ 1 ≤ l.length by omega), Bool.false_and]
        rw [e] at k0
        exact k0
end
end Oh
namespace Oh
open PySem PySem.Spec PyProof.Rows L2
def spExpr (K : PySem.W.Frag) (n : Nat) : Sp := fun vs H Q _ => ∃ v d, vs = [v, .int ((n : Int) + 1)] ∧ Rp K H v d ∧ ∀ H', Same H H' → Q (.bl (exprB n d)) H'
def spExprP (K : PySem.W.Frag) : Nat → Sp
  | 0 => fun _ _ _ _ => False
  | n + 1 => spExpr K n
section
variable {P : Program} {w : World} {K : PySem.W.Frag} {mg : Str → Option Value} {base : Heap} {kw pk : Addr}
abbrev nEx : List Str := ["value", "deepest", "head", "part"]
theorem scIsExpr : FnScope nEx ["value", "deepest"] (defScope sIsExpr) := ⟨rfl, rfl, rfl, by decide +kernel, rfl, by decide +kernel, by decide +kernel⟩
abbrev ExprF (K : PySem.W.Frag) (f : Addr) (fd : FuncData) : Prop := FunD K "is_expression" "is_expression" (defArgs sIsExpr) (defBody sIsExpr) (defScope sIsExpr) [V.int 5] [] f fd
theorem cut1 (v : V) (xs : List V) : cutV (v :: xs) (some 1) none = xs := by
  have e1 : HT.sIx (v :: xs).length 0 (some 1) = 1 := by
    have q := HT.sIx_nat (v :: xs).length 0 1
    have h : min 1 (v :: xs).length = 1 := by rw [List.length_cons]; omega
    rw [h] at q
    exact q
  have e2 : HT.sIx (v :: xs).length (v :: xs).length none = (v :: xs).length := HT.sIx_none _ _
  unfold cutV
  rw [e1, e2]
  simp
theorem cut1_no (v : V) (xs : List V) : ¬ (HT.sIx (v :: xs).length 0 (some 1) = 0 ∧ HT.sIx (v :: xs).length (v :: xs).length none = (v :: xs).length) := by
  rintro ⟨h, _⟩
  have q := HT.sIx_nat (v :: xs).length 0 1
  have h' : min 1 (v :: xs).length = 1 := by rw [List.length_cons]; omega
  rw [h'] at q
  exact absurd (q.symm.trans h) (by decide)
theorem head_inv {d : DT} (h : headB d ≠ "") : ∃ l, d = .tup (.str (headB d) :: l) := by
  cases d with
  | tup l =>
    cases l with
    | nil => exact absurd rfl h
    | cons x r =>
      cases x <;> first | exact ⟨r, rfl⟩ | exact absurd rfl h
  | _ => exact absurd rfl h
theorem expr_name {n : Nat} {d : DT} (h : headB d = "name") : exprB n d = (digitB d || (lenB d == 2 && nameB (argB d 1))) := by
  have e : (headB d == "name") = true := by rw [h]; exact beq_self_eq_true _
  cases n with
  | zero =>
    show (digitB d || ((headB d == "name") && _)) = _
    rw [e, Bool.true_and]
  | succ n =>
    show (digitB d || (if (headB d == "name") = true then _ else _)) = _
    rw [if_pos e]
theorem expr_zero {d : DT} (h : headB d ≠ "name") : exprB 0 d = digitB d := by
  show (digitB d || ((headB d == "name") && _)) = _
  rw [beq_eq_false_iff_ne.mpr h, Bool.false_and, Bool.or_false]
theorem expr_none {n : Nat} {d : DT} (h : headB d ≠ "name") (hp : partsB (headB d) = none) : exprB (n + 1) d = digitB d := by
  show (digitB d || (if (headB d == "name") = true then _ else match partsB (headB d) with | none => false | some p => _)) = _
  rw [if_neg (by simpa using h), hp, Bool.or_false]
theorem expr_some {n p : Nat} {d : DT} (h : headB d ≠ "name") (hp : partsB (headB d) = some p) : exprB (n + 1) d = (digitB d || (lenB d == 1 + p && ((tailB d).map (exprB n)).all id)) := by
  show (digitB d || (if (headB d == "name") = true then _ else match partsB (headB d) with | none => false | some p => _)) = _
  rw [if_neg (by simpa using h), hp]
theorem parts_none {h : Str} (e : partsB h = none) : h ∉ partsK.map (·.1) := by
  unfold partsB at e
  split at e
  · cases e
  · split at e
    · cases e
    · rename_i h1 h2
      intro m
      have m' : h = "plus" ∨ h = "minus" ∨ h = "same" ∨ h = "less" ∨ h = "not" := by simpa [partsK] using m
      rcases m' with z | z | z | z | z
      · exact h1 (.inl z)
      · exact h1 (.inr (.inl z))
      · exact h1 (.inr (.inr (.inl z)))
      · exact h1 (.inr (.inr (.inr z)))
      · exact h2 z
theorem parts_some {h : Str} {p : Nat} (e : partsB h = some p) : (h, V.int p) ∈ partsK ∧ h ≠ "" ∧ p ≤ 2 := by
  unfold partsB at e
  split at e
  · rename_i h1
    cases e
    rcases h1 with rfl | rfl | rfl | rfl
    · exact ⟨.head _, by decide, by decide⟩
    · exact ⟨.tail _ (.head _), by decide, by decide⟩
    · exact ⟨.tail _ (.tail _ (.head _)), by decide, by decide⟩
    · exact ⟨.tail _ (.tail _ (.tail _ (.head _))), by decide, by decide⟩
  · split at e
    · rename_i h2
      cases e
      subst h2
      exact ⟨.tail _ (.tail _ (.tail _ (.tail _ (.head _)))), by decide, by decide⟩
    · cases e
theorem expr_step {n : Nat} {f fD fH fN : Addr} {fd fdD fdH fdN : FuncData} (F : ExprF K f fd) (T : TxtF K mg kw)
    (GD : FnOk P w K mg base CX0 2 fD fdD ["value"] (spB K digitB)) (kD : PySem.W.keepIn K (.ref fD) = true) (bD : Binds K fdD ["value"] []) (mD : mg "is_digit" = some (.ref fD))
    (GH : FnOk P w K mg base CX0 1 fH fdH ["value"] (spHd K)) (kH : PySem.W.keepIn K (.ref fH) = true) (bH : Binds K fdH ["value"] []) (mH : mg "head_of" = some (.ref fH))
    (GN : FnOk P w K mg base CX0 1 fN fdN ["value"] (spB K nameB)) (kN : PySem.W.keepIn K (.ref fN) = true) (bN : Binds K fdN ["value"] []) (mN : mg "is_name" = some (.ref fN))
    (mP : mg "PARTS" = some (.ref pk)) (wp : WD K w pk partsK) (mE : mg "is_expression" = some (.ref f)) (bE : Binds K fd ["value", "deepest"] [])
    (GP : FnOk P w K mg base CX0 (n + 2) f fd ["value", "deepest"] (spExprP K n)) : FnOk P w K mg base CX0 (n + 3) f fd ["value", "deepest"] (spExpr K n) := by
  refine F.ok scIsExpr (fun vs H Q E h => ?_) (fun cdv A outer s H vs Q E hr h => ?_)
  · obtain ⟨v, d, rfl, _⟩ := h
    rfl
  · obtain ⟨v, d, rfl, r, k⟩ := h
    have hr1 : Room 1 _ := hr.mono (by omega)
    have hr2 : Room 2 _ := hr.mono (by omega)
    refine ⟨_, pss_cons (ps_if (pt_val (pe_call GD hr2 (by rfl) mD kD bD .nil pass0 (pa_cons (pv 0) pa_nil))) (pss_one (ps_ret pe_bl)) pss_nil)
      (pss_cons (ps_set (i := 2) scIsExpr.nd rfl (Or.inl rfl) (pe_call GH hr1 (by rfl) mH kH bH .nil pass0 (pa_cons (pv 0) pa_nil)))
      (pss_cons (ps_if (pt_cmpR op_eq (pv 2) pe_str (nomark _)) (pss_one (ps_ret (pe_and (pe_cmpR op_eq (pe_callB call_len_seq (by rfl) T.len boot_len (pa_cons (pv 0) pa_nil)) pe_int (nomark _)) (pe_one (pe_call GN hr1 (by rfl) mN kN bN .nil pass0 (pa_cons (pe_ix ix_tup (pv 0) pe_int (fun _ _ => rfl)) pa_nil)))))) pss_nil)
      (pss_cons (ps_if (pw_or (pt_cmpR op_eq (pv 1) pe_int (nomark _)) (pw_or (pt_cmpR op_kdNotIn (pv 2) (pe_glob (v := .ref pk) (by rfl) mP rfl) (by rfl))
          (pw_or1 (pt_cmpR op_ne (pe_callB call_len_seq (by rfl) T.len boot_len (pa_cons (pv 0) pa_nil)) (pe_op op_add pe_int (pe_ix ix_kdict (pe_glob (v := .ref pk) (by rfl) mP rfl) (pv 2) (fun _ _ => rfl))) (nomark _))))).pt (pss_one (ps_ret pe_bl)) pss_nil)
      (pss_one (ps_ret (pe_callB (cr_all rfl) (by rfl) T.all boot_allO (pa_cons
        (pe_lc (own := [("part", 3)]) (g := gName 3) (tt := tYes) rfl scIsExpr.nd (pi_tup (pe_slice sl_tup (pv 0) (po_some pe_int) po_none)) (blkOk_by (N := nEx) (sc := defScope sIsExpr) (by decide +kernel)) (fun _ _ _ _ _ => pg_name (i := 3) scIsExpr.nd rfl (Or.inl rfl)) (fun _ _ _ _ _ => pts_nil)
          (fun _ _ _ _ _ => pe_call GP hr (by rfl) mE F.kp bE .nil pass0 (pa_cons (pv 3) (pa_cons (pe_op op_sub (pv 1) pe_int) pa_nil)))) pa_nil))))))), ?_⟩
    refine ⟨_, rfl, v, d, rfl, r, fun H1 s1 => ⟨_, rfl, ?_⟩⟩
    cases hd : digitB d with
    | true =>
      have e : exprB n d = true := by cases n <;> (show (digitB d || _) = true; rw [hd]; rfl)
      have k1 := k H1 s1
      rw [e] at k1
      exact iteT k1
    | false =>
      refine iteF ?_
      have r1 := r.keep s1
      refine ⟨_, rfl, v, d, rfl, r1, ?_⟩
      refine ⟨_, rfl, rfl, _, rfl, ?_⟩
      by_cases hn : headB d = "name"
      · refine ite2 (fun _ => ?_) (fun z => absurd (decide_eq_true (by rw [hn])) z)
        rw [expr_name hn, hd, Bool.false_or] at k
        obtain ⟨l, el⟩ := head_inv (d := d) (by rw [hn]; decide)
        rw [el] at r1 k
        obtain ⟨p, xs, rfl, hp, ra⟩ := r1.tup_inv
        have hl := ra.len
        refine ⟨_, rfl, p, xs, rfl, .inr (SqT.of hp), rfl, _, rfl, ?_⟩
        have hlB : lenB (.tup (.str (headB d) :: l)) = xs.length := hl.symm
        by_cases c : xs.length = 2
        · refine ite2 (fun _ => ?_) (fun z => absurd (decide_eq_true (by rw [c]; rfl)) z)
          have hll : l.length = 1 := by have : xs.length = (DT.str (headB d) :: l).length := hl; rw [List.length_cons] at this; omega
          obtain ⟨d1, rfl⟩ : ∃ d1, l = [d1] := by
            match l, hll with
            | [d1], _ => exact ⟨d1, rfl⟩
          obtain ⟨v1, ev, rv⟩ := ra.get (i := 1) (d := d1) rfl
          refine ⟨_, rfl, p, _, _, _, rfl, rfl, SqT.of hp, at_of (j := 1) rfl ev, v1, d1, rfl, rv, fun H2 s2 => ?_⟩
          exact k H2 (s1.trans s2)
        · refine ite2 (fun z => absurd (V.int.inj (of_decide_eq_true z)) (by omega)) fun _ => ?_
          rw [hlB, beq_eq_false_iff_ne.mpr c, Bool.false_and] at k
          exact k H1 s1
      · refine ite2 (fun z => absurd (V.str.inj (of_decide_eq_true z)) hn) fun _ => ?_
        refine ⟨_, rfl, rfl, _, rfl, ?_⟩
        cases n with
        | zero =>
          rw [expr_zero hn, hd] at k
          exact ite2 (fun _ => k H1 s1) (fun z => absurd (decide_eq_true rfl) z)
        | succ n =>
          refine ite2 (fun z => absurd (V.int.inj (of_decide_eq_true z)) (by omega)) fun _ => ?_
          cases hp : partsB (headB d) with
          | none =>
            rw [expr_none hn hp, hd] at k
            refine ⟨_, rfl, pk, _, rfl, rfl, .inr ⟨wp.miss (parts_none hp), _, rfl, iteT ?_⟩⟩
            exact k H1 s1
          | some m =>
            rw [expr_some hn hp, hd, Bool.false_or] at k
            obtain ⟨mem, ne, m1⟩ := parts_some hp
            refine ⟨_, rfl, pk, _, rfl, rfl, .inl ⟨_, wp.at mem, wp.lo, _, rfl, iteF ?_⟩⟩
            obtain ⟨l, el⟩ := head_inv (d := d) ne
            rw [el] at r1 k
            obtain ⟨p, xs, rfl, hpp, ra⟩ := r1.tup_inv
            have hl := ra.len
            have hlB : lenB (.tup (.str (headB d) :: l)) = xs.length := hl.symm
            have wa : KDct K w pk (headB (.tup (.str (headB d) :: l))) (.int m) := wp.at mem
            refine ⟨_, rfl, p, xs, rfl, .inr (SqT.of hpp), _, rfl, pk, _, _, rfl, rfl, wp.at mem, _, _, rfl, rfl, rfl, _, rfl, ?_⟩
            show if (!decide (V.int xs.length = V.int (1 + (m : Int)))) = true then _ else _
            by_cases c : xs.length = 1 + m
            · rw [decide_eq_true (show V.int xs.length = V.int (1 + (m : Int)) by rw [c]; rfl)]
              refine iteF ?_
              rw [hlB, c, beq_self_eq_true, Bool.true_and] at k
              obtain ⟨vh, vs, rfl, ra'⟩ : ∃ vh vs, xs = vh :: vs ∧ RpAll K H1 vs l := by
                cases ra with
                | cons _ t => exact ⟨_, _, rfl, t⟩
              refine ⟨_, rfl, 1, rfl, p, _, rfl, SqT.of hpp, cut1_no _ _, fun q nq => ?_⟩
              rw [cut1]
              have sq : Same H1 (upd H1 q (.tup vs)) := Same.new nq
              refine ⟨q, rfl, ⟨_, SqT.of upd_same⟩, fun D nD => lc_it (walk_tup (xs := vs)) (fun i H' => Same (upd H1 q (.tup vs)) H' ∧ H' D = some (.lst (((l.map (exprB n)).take i).map V.bl))) ⟨Same.new nD, upd_same⟩ (fun i H' _ z => SqT.of (z.1 _ _ upd_same)) ?_ ?_⟩
              · rintro i x Ha Hb hi ⟨sa, da⟩ ⟨e, ex⟩
                subst e
                have li : i < l.length := by rw [← ra'.len]; exact hi
                obtain ⟨v1, ev, rv⟩ := ra'.get (i := i) (d := l[i]) (List.getElem?_eq_getElem li)
                obtain rfl := Option.some.inj (ev.symm.trans ex)
                have lc : (l.map (exprB n))[i]? = some (exprB n l[i]) := by rw [List.getElem?_map, List.getElem?_eq_getElem li]; rfl
                refine ⟨rfl, _, rfl, _, rfl, _, _, rfl, rfl, v1, l[i], ?_, rv.keep (sq.trans sa), fun Hc sc => ⟨_, sc _ _ da, ?_, fun b o e => ?_, ?_⟩⟩
                · show [v1, V.int (((n + 1 : Nat) : Int) + 1 - 1)] = [v1, V.int ((n : Int) + 1)]
                  congr 3
                  omega
                · rw [List.length_map, List.length_take, List.length_map]
                  have h3 : vs.length + 1 = 1 + m := c
                  have h4 := ra'.len
                  exact Nat.lt_of_le_of_lt (Nat.min_le_right _ _) (Nat.lt_of_le_of_lt (show l.length ≤ 2 by omega) (by decide))
                · rw [upd_ne (ne_of_none e nD)]
                  exact sc _ _ (sa _ _ e)
                · rw [upd_same, List.take_add_one, lc]
                  simp
              · rintro Hc ⟨sc, dc⟩
                refine ⟨D, l.map (exprB n), rfl, SqL.of ?_, ?_⟩
                · rw [dc, List.take_of_length_le]
                  rw [List.length_map, ra'.len]
                  exact Nat.le_refl _
                · exact k Hc (s1.trans (sq.trans sc))
            · rw [decide_eq_false (fun z => c (by have := V.int.inj z; omega))]
              rw [hlB, beq_eq_false_iff_ne.mpr c, Bool.false_and] at k
              exact iteT (k H1 s1)
end
end Oh
namespace Oh
open PySem PySem.Spec PyProof.Rows L2
def setTellB (d : DT) : Bool := lenB d == 3 && (nameB (argB d 1) && exprB 4 (argB d 2))
def hearB (d : DT) : Bool := lenB d == 3 && (nameB (argB d 1) && nameB (argB d 2))
def rowB (d : DT) : Bool := lenB d == 3 && (nameB (argB d 0) && (nameB (argB d 1) && blockB (argB d 2)))
def listB (d : DT) : List DT := match d with
  | .tup l => l
  | _ => []
def openB (d : DT) : Bool := lenB d == 2 && (choiceB (argB d 1) && ((listB (argB d 1)).map blockB).all id)
def ifB (d : DT) : Bool := lenB d == 4 && (exprB 4 (argB d 1) && (blockB (argB d 2) && blockB (argB d 3)))
def repeatB (d : DT) : Bool := lenB d == 2 && blockB (argB d 1)
def wordB (d : DT) : Bool := lenB d == 1
/-- what a check of a kind promises: of a tuple -/
def spT (K : PySem.W.Frag) (f : DT → Bool) : Sp := fun vs H Q _ => ∃ v l, vs = [v] ∧ Rp K H v (.tup l) ∧ ∀ H', Same H H' → Q (.bl (f (.tup l))) H'
theorem arg_at {K : PySem.W.Frag} {H : Hp} {xs : List V} {l : List DT} {i : Nat} (ra : RpAll K H xs l) (h : i < l.length) : ∃ v, xs[i]? = some v ∧ Rp K H v (argB (.tup l) i) := by
  obtain ⟨v, e, r⟩ := ra.get (i := i) (d := l[i]) (List.getElem?_eq_getElem h)
  refine ⟨v, e, ?_⟩
  show Rp K H v (l.getD i .non)
  rw [List.getD_eq_getElem?_getD, List.getElem?_eq_getElem h]
  exact r
/-- a law of and -/
theorem and_of {Q : Bool → Prop} {a b : Bool} (h : Q (a && b)) (h1 : a = true → Q b → Q (a && b)) : Q (a && b) := h
section
variable {P : Program} {w : World} {K : PySem.W.Frag} {mg : Str → Option Value} {base : Heap} {kw pk : Addr}
theorem ok_expr {f fD fH fN : Addr} {fd fdD fdH fdN : FuncData} (F : ExprF K f fd) (T : TxtF K mg kw)
    (GD : FnOk P w K mg base CX0 2 fD fdD ["value"] (spB K digitB)) (kD : PySem.W.keepIn K (.ref fD) = true) (bD : Binds K fdD ["value"] []) (mD : mg "is_digit" = some (.ref fD))
    (GH : FnOk P w K mg base CX0 1 fH fdH ["value"] (spHd K)) (kH : PySem.W.keepIn K (.ref fH) = true) (bH : Binds K fdH ["value"] []) (mH : mg "head_of" = some (.ref fH))
    (GN : FnOk P w K mg base CX0 1 fN fdN ["value"] (spB K nameB)) (kN : PySem.W.keepIn K (.ref fN) = true) (bN : Binds K fdN ["value"] []) (mN : mg "is_name" = some (.ref fN))
    (mP : mg "PARTS" = some (.ref pk)) (wp : WD K w pk partsK) (mE : mg "is_expression" = some (.ref f)) (bE : Binds K fd ["value", "deepest"] []) : ∀ n, FnOk P w K mg base CX0 (n + 3) f fd ["value", "deepest"] (spExpr K n)
  | 0 => expr_step F T GD kD bD mD GH kH bH mH GN kN bN mN mP wp mE bE never_ok
  | n + 1 => expr_step F T GD kD bD mD GH kH bH mH GN kN bN mN mP wp mE bE (ok_expr F T GD kD bD mD GH kH bH mH GN kN bN mN mP wp mE bE n)
theorem scSetTell : FnScope ["value"] ["value"] (defScope sSetTell) := ⟨rfl, rfl, rfl, by decide +kernel, rfl, by decide +kernel, by decide +kernel⟩
theorem ok_setTell {f fN fE : Addr} {fd fdN fdE : FuncData} {ds : List Value} (F : Fun K "_is_set_or_tell" "_is_set_or_tell" sSetTell f fd) (T : TxtF K mg kw)
    (GN : FnOk P w K mg base CX0 1 fN fdN ["value"] (spB K nameB)) (kN : PySem.W.keepIn K (.ref fN) = true) (bN : Binds K fdN ["value"] []) (mN : mg "is_name" = some (.ref fN))
    (GE : FnOk P w K mg base CX0 7 fE fdE ["value", "deepest"] (spExpr K 4)) (kE : PySem.W.keepIn K (.ref fE) = true) (vE : Vals [V.int 5] ds) (bE : Binds K fdE ["value", "deepest"] ds) (mE : mg "is_expression" = some (.ref fE)) :
    FnOk P w K mg base CX0 8 f fd ["value"] (spT K setTellB) := by
  refine F.ok scSetTell (fun vs H Q E h => ?_) (fun cdv A outer s H vs Q E hr h => ?_)
  · obtain ⟨v, l, rfl, _⟩ := h
    rfl
  · obtain ⟨v, l, rfl, r, k⟩ := h
    have hr1 : Room 1 _ := hr.mono (by decide)
    obtain ⟨p, xs, rfl, hp, ra⟩ := r.tup_inv
    have hl := ra.len
    refine ⟨_, pss_one (ps_ret (pe_and (pe_cmpR op_eq (pe_callB call_len_seq (by rfl) T.len boot_len (pa_cons (pv 0) pa_nil)) pe_int (nomark _)) (pe_and (pe_call GN hr1 (by rfl) mN kN bN .nil pass0 (pa_cons (pe_ix ix_tup (pv 0) pe_int (fun _ _ => rfl)) pa_nil))
      (pe_one (pe_call GE hr (by rfl) mE kE bE vE pass0 (pa_cons (pe_ix ix_tup (pv 0) pe_int (fun _ _ => rfl)) pa_nil)))))), ?_⟩
    refine ⟨_, rfl, p, xs, rfl, .inr (SqT.of hp), rfl, _, rfl, ?_⟩
    by_cases c : xs.length = 3
    · refine ite2 (fun _ => ?_) (fun z => absurd (decide_eq_true (by rw [c]; rfl)) z)
      have e1 : setTellB (.tup l) = (nameB (argB (.tup l) 1) && exprB 4 (argB (.tup l) 2)) := by
        show ((l.length == 3) && _) = _
        rw [← hl, c]
        rfl
      obtain ⟨v1, x1, r1⟩ := arg_at (i := 1) ra (by omega)
      obtain ⟨v2, x2, r2⟩ := arg_at (i := 2) ra (by omega)
      refine ⟨_, rfl, p, _, _, _, rfl, rfl, SqT.of hp, at_of (j := 1) rfl x1, v1, _, rfl, r1, fun H1 s1 => ⟨_, rfl, ?_⟩⟩
      rw [e1] at k
      cases hb : nameB (argB (.tup l) 1) with
      | false =>
        rw [hb] at k
        exact iteF (k H1 s1)
      | true =>
        rw [hb, Bool.true_and] at k
        exact iteT ⟨_, rfl, p, _, _, _, rfl, rfl, SqT.of (s1 _ _ hp), at_of (j := 2) rfl x2, v2, _, rfl, r2.keep s1, fun H2 s2 => k H2 (s1.trans s2)⟩
    · refine ite2 (fun z => absurd (V.int.inj (of_decide_eq_true z)) (by omega)) fun _ => ?_
      have e1 : setTellB (.tup l) = false := by
        show ((l.length == 3) && _) = _
        rw [← hl, beq_eq_false_iff_ne.mpr c, Bool.false_and]
      rw [e1] at k
      exact k H (Same.refl H)
theorem scIsHear : FnScope ["value"] ["value"] (defScope sIsHear) := ⟨rfl, rfl, rfl, by decide +kernel, rfl, by decide +kernel, by decide +kernel⟩
theorem ok_isHear {f fN : Addr} {fd fdN : FuncData} (F : Fun K "_is_hear" "_is_hear" sIsHear f fd) (T : TxtF K mg kw)
    (GN : FnOk P w K mg base CX0 1 fN fdN ["value"] (spB K nameB)) (kN : PySem.W.keepIn K (.ref fN) = true) (bN : Binds K fdN ["value"] []) (mN : mg "is_name" = some (.ref fN)) :
    FnOk P w K mg base CX0 8 f fd ["value"] (spT K hearB) := by
  refine F.ok scIsHear (fun vs H Q E h => ?_) (fun cdv A outer s H vs Q E hr h => ?_)
  · obtain ⟨v, l, rfl, _⟩ := h
    rfl
  · obtain ⟨v, l, rfl, r, k⟩ := h
    have hr1 : Room 1 _ := hr.mono (by decide)
    obtain ⟨p, xs, rfl, hp, ra⟩ := r.tup_inv
    have hl := ra.len
    refine ⟨_, pss_one (ps_ret (pe_and (pe_cmpR op_eq (pe_callB call_len_seq (by rfl) T.len boot_len (pa_cons (pv 0) pa_nil)) pe_int (nomark _)) (pe_and (pe_call GN hr1 (by rfl) mN kN bN .nil pass0 (pa_cons (pe_ix ix_tup (pv 0) pe_int (fun _ _ => rfl)) pa_nil))
      (pe_one (pe_call GN hr1 (by rfl) mN kN bN .nil pass0 (pa_cons (pe_ix ix_tup (pv 0) pe_int (fun _ _ => rfl)) pa_nil)))))), ?_⟩
    refine ⟨_, rfl, p, xs, rfl, .inr (SqT.of hp), rfl, _, rfl, ?_⟩
    by_cases c : xs.length = 3
    · refine ite2 (fun _ => ?_) (fun z => absurd (decide_eq_true (by rw [c]; rfl)) z)
      have e1 : hearB (.tup l) = (nameB (argB (.tup l) 1) && nameB (argB (.tup l) 2)) := by
        show ((l.length == 3) && _) = _
        rw [← hl, c]
        rfl
      obtain ⟨v1, x1, r1⟩ := arg_at (i := 1) ra (by omega)
      obtain ⟨v2, x2, r2⟩ := arg_at (i := 2) ra (by omega)
      refine ⟨_, rfl, p, _, _, _, rfl, rfl, SqT.of hp, at_of (j := 1) rfl x1, v1, _, rfl, r1, fun H1 s1 => ⟨_, rfl, ?_⟩⟩
      rw [e1] at k
      cases hb : nameB (argB (.tup l) 1) with
      | false =>
        rw [hb] at k
        exact iteF (k H1 s1)
      | true =>
        rw [hb, Bool.true_and] at k
        exact iteT ⟨_, rfl, p, _, _, _, rfl, rfl, SqT.of (s1 _ _ hp), at_of (j := 2) rfl x2, v2, _, rfl, r2.keep s1, fun H2 s2 => k H2 (s1.trans s2)⟩
    · refine ite2 (fun z => absurd (V.int.inj (of_decide_eq_true z)) (by omega)) fun _ => ?_
      have e1 : hearB (.tup l) = false := by
        show ((l.length == 3) && _) = _
        rw [← hl, beq_eq_false_iff_ne.mpr c, Bool.false_and]
      rw [e1] at k
      exact k H (Same.refl H)
theorem scIsRepeat : FnScope ["value"] ["value"] (defScope sIsRepeat) := ⟨rfl, rfl, rfl, by decide +kernel, rfl, by decide +kernel, by decide +kernel⟩
theorem ok_isRepeat {f fB : Addr} {fd fdB : FuncData} (F : Fun K "_is_repeat" "_is_repeat" sIsRepeat f fd) (T : TxtF K mg kw)
    (GB : FnOk P w K mg base CX0 1 fB fdB ["value"] (spB K blockB)) (kB : PySem.W.keepIn K (.ref fB) = true) (bB : Binds K fdB ["value"] []) (mB : mg "is_block" = some (.ref fB)) : FnOk P w K mg base CX0 8 f fd ["value"] (spT K repeatB) := by
  refine F.ok scIsRepeat (fun vs H Q E h => ?_) (fun cdv A outer s H vs Q E hr h => ?_)
  · obtain ⟨v, l, rfl, _⟩ := h
    rfl
  · obtain ⟨v, l, rfl, r, k⟩ := h
    have hr1 : Room 1 _ := hr.mono (by decide)
    obtain ⟨p, xs, rfl, hp, ra⟩ := r.tup_inv
    have hl := ra.len
    refine ⟨_, pss_one (ps_ret (pe_and (pe_cmpR op_eq (pe_callB call_len_seq (by rfl) T.len boot_len (pa_cons (pv 0) pa_nil)) pe_int (nomark _)) (pe_one (pe_call GB hr1 (by rfl) mB kB bB .nil pass0 (pa_cons (pe_ix ix_tup (pv 0) pe_int (fun _ _ => rfl)) pa_nil))))), ?_⟩
    refine ⟨_, rfl, p, xs, rfl, .inr (SqT.of hp), rfl, _, rfl, ?_⟩
    by_cases c : xs.length = 2
    · refine ite2 (fun _ => ?_) (fun z => absurd (decide_eq_true (by rw [c]; rfl)) z)
      have e1 : repeatB (.tup l) = blockB (argB (.tup l) 1) := by
        show ((l.length == 2) && _) = _
        rw [← hl, c]
        rfl
      obtain ⟨v1, x1, r1⟩ := arg_at (i := 1) ra (by omega)
      rw [e1] at k
      exact ⟨_, rfl, p, _, _, _, rfl, rfl, SqT.of hp, at_of (j := 1) rfl x1, v1, _, rfl, r1, fun H1 s1 => k H1 s1⟩
    · refine ite2 (fun z => absurd (V.int.inj (of_decide_eq_true z)) (by omega)) fun _ => ?_
      have e1 : repeatB (.tup l) = false := by
        show ((l.length == 2) && _) = _
        rw [← hl, beq_eq_false_iff_ne.mpr c, Bool.false_and]
      rw [e1] at k
      exact k H (Same.refl H)
theorem ok_isWordD {f : Addr} {fd : FuncData} (F : Fun K "_is_word" "_is_word" sIsWord f fd) (T : TxtF K mg kw) : FnOk P w K mg base CX0 8 f fd ["value"] (spT K wordB) := by
  refine F.ok scIsWord (fun vs H Q E h => ?_) (fun cdv A outer s H vs Q E hr h => ?_)
  · obtain ⟨v, l, rfl, _⟩ := h
    rfl
  · obtain ⟨v, l, rfl, r, k⟩ := h
    obtain ⟨p, xs, rfl, hp, ra⟩ := r.tup_inv
    have hl := ra.len
    refine ⟨_, pss_one (ps_ret (pe_cmpR op_eq (pe_callB call_len_seq (by rfl) T.len boot_len (pa_cons (pv 0) pa_nil)) pe_int (nomark _))), ?_⟩
    refine ⟨_, rfl, p, xs, rfl, .inr (SqT.of hp), rfl, ?_⟩
    have e : decide (V.int xs.length = V.int 1) = wordB (.tup l) := by
      show _ = (l.length == 1)
      rw [← hl]
      by_cases c : xs.length = 1
      · rw [c]
        rfl
      · rw [beq_eq_false_iff_ne.mpr c]
        exact decide_eq_false fun z => c (by have := V.int.inj z; omega)
    show Q (.bl (decide (V.int xs.length = V.int 1))) H
    rw [e]
    exact k H (Same.refl H)
end
end Oh
namespace Oh
open PySem PySem.Spec PyProof.Rows L2
section
variable {P : Program} {w : World} {K : PySem.W.Frag} {mg : Str → Option Value} {base : Heap} {kw pk ck : Addr}
theorem scIsIf : FnScope ["value"] ["value"] (defScope sIsIf) := ⟨rfl, rfl, rfl, by decide +kernel, rfl, by decide +kernel, by decide +kernel⟩
theorem ok_isIf {f fB fE : Addr} {fd fdB fdE : FuncData} {ds : List Value} (F : Fun K "_is_if" "_is_if" sIsIf f fd) (T : TxtF K mg kw)
    (GB : FnOk P w K mg base CX0 1 fB fdB ["value"] (spB K blockB)) (kB : PySem.W.keepIn K (.ref fB) = true) (bB : Binds K fdB ["value"] []) (mB : mg "is_block" = some (.ref fB))
    (GE : FnOk P w K mg base CX0 7 fE fdE ["value", "deepest"] (spExpr K 4)) (kE : PySem.W.keepIn K (.ref fE) = true) (vE : Vals [V.int 5] ds) (bE : Binds K fdE ["value", "deepest"] ds) (mE : mg "is_expression" = some (.ref fE)) :
    FnOk P w K mg base CX0 8 f fd ["value"] (spT K ifB) := by
  refine F.ok scIsIf (fun vs H Q E h => ?_) (fun cdv A outer s H vs Q E hr h => ?_)
  · obtain ⟨v, l, rfl, _⟩ := h
    rfl
  · obtain ⟨v, l, rfl, r, k⟩ := h
    have hr1 : Room 1 _ := hr.mono (by decide)
    obtain ⟨p, xs, rfl, hp, ra⟩ := r.tup_inv
    have hl := ra.len
    refine ⟨_, pss_one (ps_ret (pe_and (pe_cmpR op_eq (pe_callB call_len_seq (by rfl) T.len boot_len (pa_cons (pv 0) pa_nil)) pe_int (nomark _)) (pe_and (pe_call GE hr (by rfl) mE kE bE vE pass0 (pa_cons (pe_ix ix_tup (pv 0) pe_int (fun _ _ => rfl)) pa_nil))
      (pe_and (pe_call GB hr1 (by rfl) mB kB bB .nil pass0 (pa_cons (pe_ix ix_tup (pv 0) pe_int (fun _ _ => rfl)) pa_nil)) (pe_one (pe_call GB hr1 (by rfl) mB kB bB .nil pass0 (pa_cons (pe_ix ix_tup (pv 0) pe_int (fun _ _ => rfl)) pa_nil))))))), ?_⟩
    refine ⟨_, rfl, p, xs, rfl, .inr (SqT.of hp), rfl, _, rfl, ?_⟩
    by_cases c : xs.length = 4
    · refine ite2 (fun _ => ?_) (fun z => absurd (decide_eq_true (by rw [c]; rfl)) z)
      have e1 : ifB (.tup l) = (exprB 4 (argB (.tup l) 1) && (blockB (argB (.tup l) 2) && blockB (argB (.tup l) 3))) := by
        show ((l.length == 4) && _) = _
        rw [← hl, c]
        rfl
      obtain ⟨v1, x1, r1⟩ := arg_at (i := 1) ra (by omega)
      obtain ⟨v2, x2, r2⟩ := arg_at (i := 2) ra (by omega)
      obtain ⟨v3, x3, r3⟩ := arg_at (i := 3) ra (by omega)
      refine ⟨_, rfl, p, _, _, _, rfl, rfl, SqT.of hp, at_of (j := 1) rfl x1, v1, _, rfl, r1, fun H1 s1 => ⟨_, rfl, ?_⟩⟩
      rw [e1] at k
      cases hb : exprB 4 (argB (.tup l) 1) with
      | false =>
        rw [hb, Bool.false_and] at k
        exact iteF (k H1 s1)
      | true =>
        rw [hb, Bool.true_and] at k
        refine iteT ⟨_, rfl, p, _, _, _, rfl, rfl, SqT.of (s1 _ _ hp), at_of (j := 2) rfl x2, v2, _, rfl, r2.keep s1, fun H2 s2 => ⟨_, rfl, ?_⟩⟩
        have s12 := s1.trans s2
        cases hc : blockB (argB (.tup l) 2) with
        | false =>
          rw [hc, Bool.false_and] at k
          exact iteF (k H2 s12)
        | true =>
          rw [hc, Bool.true_and] at k
          exact iteT ⟨_, rfl, p, _, _, _, rfl, rfl, SqT.of (s12 _ _ hp), at_of (j := 3) rfl x3, v3, _, rfl, r3.keep s12, fun H3 s3 => k H3 (s12.trans s3)⟩
    · refine ite2 (fun z => absurd (V.int.inj (of_decide_eq_true z)) (by omega)) fun _ => ?_
      have e1 : ifB (.tup l) = false := by
        show ((l.length == 4) && _) = _
        rw [← hl, beq_eq_false_iff_ne.mpr c, Bool.false_and]
      rw [e1] at k
      exact k H (Same.refl H)
theorem choice_inv {d : DT} (h : choiceB d = true) : ∃ l, d = .tup l ∧ l.length ≤ 4 := by
  cases d with
  | tup l =>
    have h : (decide (1 ≤ l.length) && decide (l.length ≤ 4)) = true := h
    exact ⟨l, rfl, of_decide_eq_true (Bool.and_eq_true_iff.mp h).2⟩
  | _ => cases h
theorem scIsOpen : FnScope ["value", "block"] ["value"] (defScope sIsOpen) := ⟨rfl, rfl, rfl, by decide +kernel, rfl, by decide +kernel, by decide +kernel⟩
theorem ok_isOpen {f fB fC : Addr} {fd fdB fdC : FuncData} (F : Fun K "_is_open" "_is_open" sIsOpen f fd) (T : TxtF K mg kw)
    (GB : FnOk P w K mg base CX0 1 fB fdB ["value"] (spB K blockB)) (kB : PySem.W.keepIn K (.ref fB) = true) (bB : Binds K fdB ["value"] []) (mB : mg "is_block" = some (.ref fB))
    (GC : FnOk P w K mg base CX0 1 fC fdC ["value"] (spB K choiceB)) (kC : PySem.W.keepIn K (.ref fC) = true) (bC : Binds K fdC ["value"] []) (mC : mg "_is_choice" = some (.ref fC)) :
    FnOk P w K mg base CX0 8 f fd ["value"] (spT K openB) := by
  refine F.ok scIsOpen (fun vs H Q E h => ?_) (fun cdv A outer s H vs Q E hr h => ?_)
  · obtain ⟨v, l, rfl, _⟩ := h
    rfl
  · obtain ⟨v, l, rfl, r, k⟩ := h
    have hr1 : Room 1 _ := hr.mono (by decide)
    obtain ⟨p, xs, rfl, hp, ra⟩ := r.tup_inv
    have hl := ra.len
    refine ⟨_, pss_one (ps_ret (pe_and (pe_cmpR op_eq (pe_callB call_len_seq (by rfl) T.len boot_len (pa_cons (pv 0) pa_nil)) pe_int (nomark _)) (pe_and (pe_call GC hr1 (by rfl) mC kC bC .nil pass0 (pa_cons (pe_ix ix_tup (pv 0) pe_int (fun _ _ => rfl)) pa_nil))
      (pe_one (pe_callB (cr_all rfl) (by rfl) T.all boot_allO (pa_cons
        (pe_lc (own := [("block", 1)]) (g := gName 1) (tt := tYes) rfl scIsOpen.nd (pi_tup (pe_ix ix_tup (pv 0) pe_int (fun _ _ => rfl))) (blkOk_by (N := ["value", "block"]) (sc := defScope sIsOpen) (by decide +kernel)) (fun _ _ _ _ _ => pg_name (i := 1) scIsOpen.nd rfl (Or.inl rfl)) (fun _ _ _ _ _ => pts_nil)
          (fun _ _ _ _ _ => pe_call GB hr1 (by rfl) mB kB bB .nil pass0 (pa_cons (pv 1) pa_nil))) pa_nil)))))), ?_⟩
    refine ⟨_, rfl, p, xs, rfl, .inr (SqT.of hp), rfl, _, rfl, ?_⟩
    by_cases c : xs.length = 2
    · refine ite2 (fun _ => ?_) (fun z => absurd (decide_eq_true (by rw [c]; rfl)) z)
      have e1 : openB (.tup l) = (choiceB (argB (.tup l) 1) && ((listB (argB (.tup l) 1)).map blockB).all id) := by
        show ((l.length == 2) && _) = _
        rw [← hl, c]
        rfl
      obtain ⟨v1, x1, r1⟩ := arg_at (i := 1) ra (by omega)
      refine ⟨_, rfl, p, _, _, _, rfl, rfl, SqT.of hp, at_of (j := 1) rfl x1, v1, _, rfl, r1, fun H1 s1 => ⟨_, rfl, ?_⟩⟩
      rw [e1] at k
      cases hb : choiceB (argB (.tup l) 1) with
      | false =>
        rw [hb, Bool.false_and] at k
        exact iteF (k H1 s1)
      | true =>
        obtain ⟨m, em, lm⟩ := choice_inv hb
        rw [hb, Bool.true_and, em] at k
        rw [em] at r1
        obtain ⟨q, ys, rfl, hq, rm⟩ := (r1.keep s1).tup_inv
        have hq1 : SqT K H1 q ys := SqT.of hq
        refine iteT ⟨_, rfl, p, _, _, _, rfl, rfl, SqT.of (s1 _ _ hp), at_of (j := 1) rfl x1, q, rfl, ⟨_, hq1⟩, fun D nD => lc_it (walk_tup (xs := ys)) (fun i H' => Same H1 H' ∧ H' D = some (.lst (((m.map blockB).take i).map V.bl))) ⟨Same.new nD, upd_same⟩ (fun i H' _ z => SqT.of (z.1 _ _ hq)) ?_ ?_⟩
        · rintro i x Ha Hb hi ⟨sa, da⟩ ⟨e, ex⟩
          subst e
          have li : i < m.length := by rw [← rm.len]; exact hi
          obtain ⟨vi, ev, rv⟩ := rm.get (i := i) (d := m[i]) (List.getElem?_eq_getElem li)
          obtain rfl := Option.some.inj (ev.symm.trans ex)
          have lc : (m.map blockB)[i]? = some (blockB m[i]) := by rw [List.getElem?_map, List.getElem?_eq_getElem li]; rfl
          refine ⟨rfl, _, rfl, vi, m[i], rfl, rv.keep sa, fun Hc sc => ⟨_, sc _ _ da, ?_, fun b o e => ?_, ?_⟩⟩
          · rw [List.length_map, List.length_take, List.length_map]
            exact Nat.lt_of_le_of_lt (Nat.min_le_right _ _) (Nat.lt_of_le_of_lt lm (by decide))
          · rw [upd_ne (ne_of_none e nD)]
            exact sc _ _ (sa _ _ e)
          · rw [upd_same, List.take_add_one, lc]
            simp
        · rintro Hc ⟨sc, dc⟩
          refine ⟨D, m.map blockB, rfl, SqL.of ?_, k Hc (s1.trans sc)⟩
          rw [dc, List.take_of_length_le]
          rw [List.length_map, rm.len]
          exact Nat.le_refl _
    · refine ite2 (fun z => absurd (V.int.inj (of_decide_eq_true z)) (by omega)) fun _ => ?_
      have e1 : openB (.tup l) = false := by
        show ((l.length == 2) && _) = _
        rw [← hl, beq_eq_false_iff_ne.mpr c, Bool.false_and]
      rw [e1] at k
      exact k H (Same.refl H)
end
end Oh
namespace Oh
open PySem PySem.Spec PyProof.Rows L2
def portB (d : DT) : Str := match argB d 0 with
  | .str s => s
  | _ => ""
def waitB (d : DT) : Bool := lenB d == 2 && (choiceB (argB d 1) && (((listB (argB d 1)).map rowB).all id && decide ((listB (argB d 1)).map portB).Nodup))
def kindB (h : Str) : Option (DT → Bool) :=
  if h = "set" ∨ h = "tell" then some setTellB else if h = "hear" then some hearB else if h = "wait" then some waitB else if h = "open" then some openB else if h = "if" then some ifB else if h = "repeat" then some repeatB
  else if h = "leave" ∨ h = "home" ∨ h = "fail" then some wordB else none
def stmtB (d : DT) : Bool := match kindB (headB d) with
  | none => false
  | some g => g d
/-- CHECKS -/
def checksK (fS fH fW fO fI fR fw : Addr) : List (Str × V) :=
  [("set", .ref fS), ("tell", .ref fS), ("hear", .ref fH), ("wait", .ref fW), ("open", .ref fO), ("if", .ref fI), ("repeat", .ref fR), ("leave", .ref fw), ("home", .ref fw), ("fail", .ref fw)]
/-- a check among CHECKS -/
structure Chk (P : Program) (w : World) (K : PySem.W.Frag) (mg : Str → Option Value) (base : Heap) (f : Addr) (g : DT → Bool) : Prop where
  ex : ∃ fd, FnOk P w K mg base CX0 8 f fd ["value"] (spT K g) ∧ Binds K fd ["value"] []
  kp : PySem.W.keepIn K (.ref f) = true
section
variable {P : Program} {w : World} {K : PySem.W.Frag} {mg : Str → Option Value} {base : Heap} {kw pk ck : Addr}
theorem kind_none {h : Str} (e : kindB h = none) {fS fH fW fO fI fR fw : Addr} : h ∉ (checksK fS fH fW fO fI fR fw).map (·.1) := by
  unfold kindB at e
  repeat' split at e
  all_goals first | cases e | skip
  rename_i h1 h2 h3 h4 h5 h6 h7
  intro m
  have m' : h = "set" ∨ h = "tell" ∨ h = "hear" ∨ h = "wait" ∨ h = "open" ∨ h = "if" ∨ h = "repeat" ∨ h = "leave" ∨ h = "home" ∨ h = "fail" := by simpa [checksK] using m
  rcases m' with z | z | z | z | z | z | z | z | z | z
  · exact h1 (.inl z)
  · exact h1 (.inr z)
  · exact h2 z
  · exact h3 z
  · exact h4 z
  · exact h5 z
  · exact h6 z
  · exact h7 (.inl z)
  · exact h7 (.inr (.inl z))
  · exact h7 (.inr (.inr z))
theorem kind_some {h : Str} {g : DT → Bool} (e : kindB h = some g) {fS fH fW fO fI fR fw : Addr} (CS : Chk P w K mg base fS setTellB) (CH : Chk P w K mg base fH hearB) (CW : Chk P w K mg base fW waitB) (CO : Chk P w K mg base fO openB) (CI : Chk P w K mg base fI ifB) (CR : Chk P w K mg base fR repeatB) (Cw : Chk P w K mg base fw wordB) :
    h ≠ "" ∧ ∃ f1, (h, V.ref f1) ∈ checksK fS fH fW fO fI fR fw ∧ Chk P w K mg base f1 g := by
  unfold kindB at e
  split at e
  · rename_i h1
    cases e
    rcases h1 with rfl | rfl
    · exact ⟨by decide, fS, .head _, CS⟩
    · exact ⟨by decide, fS, .tail _ (.head _), CS⟩
  split at e
  · rename_i h1
    cases e
    subst h1
    exact ⟨by decide, fH, .tail _ (.tail _ (.head _)), CH⟩
  split at e
  · rename_i h1
    cases e
    subst h1
    exact ⟨by decide, fW, .tail _ (.tail _ (.tail _ (.head _))), CW⟩
  split at e
  · rename_i h1
    cases e
    subst h1
    exact ⟨by decide, fO, .tail _ (.tail _ (.tail _ (.tail _ (.head _)))), CO⟩
  split at e
  · rename_i h1
    cases e
    subst h1
    exact ⟨by decide, fI, .tail _ (.tail _ (.tail _ (.tail _ (.tail _ (.head _))))), CI⟩
  split at e
  · rename_i h1
    cases e
    subst h1
    exact ⟨by decide, fR, .tail _ (.tail _ (.tail _ (.tail _ (.tail _ (.tail _ (.head _)))))), CR⟩
  split at e
  · rename_i h1
    cases e
    rcases h1 with rfl | rfl | rfl
    · exact ⟨by decide, fw, .tail _ (.tail _ (.tail _ (.tail _ (.tail _ (.tail _ (.tail _ (.head _))))))), Cw⟩
    · exact ⟨by decide, fw, .tail _ (.tail _ (.tail _ (.tail _ (.tail _ (.tail _ (.tail _ (.tail _ (.head _)))))))), Cw⟩
    · exact ⟨by decide, fw, .tail _ (.tail _ (.tail _ (.tail _ (.tail _ (.tail _ (.tail _ (.tail _ (.tail _ (.head _))))))))), Cw⟩
  · cases e
theorem ok_isStatementD {f fD fS fH fW fO fI fR fw : Addr} {fd fdD : FuncData} (F : Fun K "is_statement" "is_statement" sIsStatement f fd)
    (GD : FnOk P w K mg base CX0 1 fD fdD ["value"] (spHd K)) (kD : PySem.W.keepIn K (.ref fD) = true) (bD : Binds K fdD ["value"] []) (mD : mg "head_of" = some (.ref fD))
    (mC : mg "CHECKS" = some (.ref ck)) (wc : WD K w ck (checksK fS fH fW fO fI fR fw))
    (CS : Chk P w K mg base fS setTellB) (CH : Chk P w K mg base fH hearB) (CW : Chk P w K mg base fW waitB) (CO : Chk P w K mg base fO openB) (CI : Chk P w K mg base fI ifB) (CR : Chk P w K mg base fR repeatB) (Cw : Chk P w K mg base fw wordB) :
    FnOk P w K mg base CX0 9 f fd ["value"] (spB K stmtB) := by
  refine F.ok scIsStatement (fun vs H Q E h => ?_) (fun cdv A outer s H vs Q E hr h => ?_)
  · obtain ⟨v, d, rfl, _⟩ := h
    rfl
  · obtain ⟨v, d, rfl, r, k⟩ := h
    have hr1 : Room 1 _ := hr.mono (by decide)
    have body : ∀ (f1 : Addr) (g : DT → Bool), Chk P w K mg base f1 g → ((kindB (headB d) = none) ∨ (headB d ≠ "" ∧ (headB d, V.ref f1) ∈ checksK fS fH fW fO fI fR fw ∧ stmtB d = g d)) →
        ∃ t, PSs (cxOf CX0 P w K mg base ["value", "head", "check"] "is_statement" (defScope sIsStatement) f cdv A outer s H E).nox (defBody sIsStatement) t ∧ t { nx := fun _ H' => Q .non H', rt := Q } (start ["value", "head", "check"] [v]) H := by
      intro f1 g C h
      obtain ⟨fd1, G1, b1⟩ := C.ex
      refine ⟨_, pss_cons (ps_set (i := 1) scIsStatement.nd rfl (Or.inl rfl) (pe_call GD hr1 (by rfl) mD kD bD .nil pass0 (pa_cons (pv 0) pa_nil)))
        (pss_cons (ps_if (pt_cmpR op_kdNotIn (pv 1) (pe_glob (v := .ref ck) (by rfl) mC rfl) (by rfl)) (pss_one (ps_ret pe_bl)) pss_nil)
        (pss_cons (ps_set (i := 2) scIsStatement.nd rfl (Or.inl rfl) (pe_ix ix_kdict (pe_glob (v := .ref ck) (by rfl) mC rfl) (pv 1) (fun _ _ => rfl)))
        (pss_one (ps_ret (pe_callL (i := 2) G1 hr rfl (Or.inl rfl) C.kp b1 .nil pass0 (pa_cons (pv 0) pa_nil)))))), ?_⟩
      refine ⟨_, rfl, v, d, rfl, r, ?_⟩
      rcases h with h | ⟨ne, mem, eg⟩
      · refine ⟨_, rfl, ck, _, rfl, rfl, .inr ⟨wc.miss (kind_none h), _, rfl, iteT ?_⟩⟩
        have e : stmtB d = false := by unfold stmtB; rw [h]
        have k0 := k H (Same.refl H)
        rw [e] at k0
        exact k0
      · refine ⟨_, rfl, ck, _, rfl, rfl, .inl ⟨_, wc.at mem, wc.lo, _, rfl, iteF ?_⟩⟩
        refine ⟨_, rfl, ck, _, _, rfl, rfl, wc.at mem, ?_⟩
        obtain ⟨l, el⟩ := head_inv (d := d) ne
        rw [eg, el] at k
        rw [el] at r
        exact ⟨rfl, _, rfl, v, _, rfl, r, k⟩
    cases e : kindB (headB d) with
    | none => exact body fw wordB Cw (.inl e)
    | some g =>
      obtain ⟨ne, f1, mem, C⟩ := kind_some e CS CH CW CO CI CR Cw
      exact body f1 g C (.inr ⟨ne, mem, by unfold stmtB; rw [e]⟩)
end
end Oh
/-! Set comprehensions of two clauses, over any kind of member: e0 says what the new set is, Add what one member more makes of it. -/
namespace Oh
open PySem PySem.Spec PyProof.Rows L2 PpSet
abbrev sc2 (elt t0 i0 t1 i1 : Expr) (ifs0 ifs1 : List Expr) (scope : Scope) (pos : Pos) : Expr := .SetComp elt [⟨t0, i0, ifs0, 0⟩, ⟨t1, i1, ifs1, 0⟩] scope pos
section
variable (elt t0 i0 t1 i1 : Expr) (ifs0 ifs1 : List Expr) (scope : Scope) (pos : Pos) (it acc : Value) (env : Env)
theorem turnOuter : compTurn (sc2 elt t0 i0 t1 i1 ifs0 ifs1 scope pos) 0 it acc env = (do
      standAt i0.pos
      match ← pyNext it with
      | none => pure (.done .next)
      | some v =>
        letOwnedTupleGo t0 it v
        assign t0 env v
        let mut ok := true
        for c in ifs0 do
          if ok then ok ← isTrue c env (eval c env)
        if ok then
          let x ← eval i1 env
          standAt i1.pos
          let x ← foldedSetIterable i1 env x
          let _ ← runOwn (.compStart (sc2 elt t0 i0 t1 i1 ifs0 ifs1 scope pos) 1 (← holding [x] (pyIter x)) acc env) env
        again (.compLoop (sc2 elt t0 i0 t1 i1 ifs0 ifs1 scope pos) 0 it acc env)) := by rfl
theorem turnInner : compTurn (sc2 elt t0 i0 t1 i1 ifs0 ifs1 scope pos) 1 it acc env = (do
      standAt i1.pos
      match ← pyNext it with
      | none => pure (.done .next)
      | some v =>
        letOwnedTupleGo t1 it v
        assign t1 env v
        let mut ok := true
        for c in ifs1 do
          if ok then ok ← isTrue c env (eval c env)
        if ok then
          (do let v ← eval elt env; standAt elt.pos; let _ ← call (.builtin "set.add") [acc, v])
        again (.compLoop (sc2 elt t0 i0 t1 i1 ifs0 ifs1 scope pos) 1 it acc env)) := by rfl
end
section
variable {prog : Program} {w : World} {A : Around} {R : Result → Shared → Prop} {s : Shared} {elt t0 i0 t1 i1 : Expr} {ifs0 ifs1 : List Expr} {scope : Scope} {pos : Pos} {it acc : Value} {env : Env}
abbrev NB (prog : Program) (w : World) (A : Around) (env : Env) (R : Result → Shared → Prop) : Value → Shared → Prop := notedBy (model prog w) A env fun e s' => R (.error e) s'
abbrev testsOf (ifs : List Expr) (env : Env) : Sem Bool := forIn ifs true fun c r => if r = true then do let ok ← isTrue c env (eval c env); pure (ForInStep.yield ok) else pure (ForInStep.yield r)
theorem outer_loop (hs : ∀ x, foldedSetIterable i1 env x = pure x) (I : Nat → Shared → Prop)
    (turn : ∀ n s, I n s → wpAny (model prog w) A (pyNext it) (fun r a => match r with
      | none => R (.ok .next) a
      | some v => wpAny (model prog w) A (letOwnedTupleGo t0 it v) (fun _ b => wpAny (model prog w) A (assign t0 env v) (fun _ c => wpAny (model prog w) A (testsOf ifs0 env) (fun ok d =>
            if ok = true then wpAny (model prog w) A (eval i1 env) (fun x e => wpAny (model prog w) A (pyIter x) (fun it1 f =>
              codeAny (model prog w) A (.compStart (sc2 elt t0 i0 t1 i1 ifs0 ifs1 scope pos) 1 it1 acc env) (fun r s' => match r with
                | .ok _ => ∃ m, m < n ∧ I m s'
                | .error _ => False) f) (NB prog w A env R) e) (NB prog w A env R) d
            else ∃ m, m < n ∧ I m d) (NB prog w A env R) c) (NB prog w A env R) b) (NB prog w A env R) a) (NB prog w A env R) s)
    (n : Nat) (h : I n s) : codeAny (model prog w) A (.compLoop (sc2 elt t0 i0 t1 i1 ifs0 ifs1 scope pos) 0 it acc env) R s := by
  refine codeAny_loop rfl I (fun n s hI => ?_) n h
  show wpAny _ A ((compTurn (sc2 elt t0 i0 t1 i1 ifs0 ifs1 scope pos) 0 it acc env).onRaise (fun x => do noteFrame x env; theTreesLotGoes x)) _ _ s
  refine wpAny_noted ?_
  rw [turnOuter]
  refine wpAny_bind (wpAny_standAt (wpAny_bind (wpAny_mono (turn n s hI) (fun r a ha => ?_) fun _ _ z => z)))
  cases r with
  | none => exact wpAny_pure ha
  | some v =>
    refine wpAny_bind (wpAny_mono ha (fun _ b hb => wpAny_bind (wpAny_mono hb (fun _ c hc => wpAny_bind (wpAny_mono hc (fun ok d hd => ?_) fun _ _ z => z)) fun _ _ z => z)) fun _ _ z => z)
    cases ok with
    | false => exact wpAny_pure ⟨rfl, hd⟩
    | true =>
      refine wpAny_bind (wpAny_mono hd (fun x e he => ?_) fun _ _ z => z)
      refine wpAny_bind (wpAny_standAt (wpAny_bind (wpAny_of_eq (hs x) (wpAny_bind (wpAny_holding (wpAny_mono he (fun it1 f hf => ?_) fun _ _ z => z))))))
      refine wpAny_bind (wpAny_runOwn ?_)
      rw [Around.mark_none]
      refine codeAny_mono hf fun r s' hr => ?_
      cases r with
      | error e => exact hr.elim
      | ok f =>
        first
          | exact wpAny_pure ⟨rfl, hr⟩
          | exact wpAny_bind (wpAny_pure (wpAny_pure ⟨rfl, hr⟩))
theorem inner_loop (I : Nat → Shared → Prop)
    (turn : ∀ n s, I n s → wpAny (model prog w) A (pyNext it) (fun r a => match r with
      | none => R (.ok .next) a
      | some v => wpAny (model prog w) A (letOwnedTupleGo t1 it v) (fun _ b => wpAny (model prog w) A (assign t1 env v) (fun _ c => wpAny (model prog w) A (testsOf ifs1 env) (fun ok d =>
            if ok = true then wpAny (model prog w) A (eval elt env) (fun x e => wpAny (model prog w) A (call (.builtin "set.add") [acc, x]) (fun _ f => ∃ m, m < n ∧ I m f) (NB prog w A env R) e) (NB prog w A env R) d
            else ∃ m, m < n ∧ I m d) (NB prog w A env R) c) (NB prog w A env R) b) (NB prog w A env R) a) (NB prog w A env R) s)
    (n : Nat) (h : I n s) : codeAny (model prog w) A (.compLoop (sc2 elt t0 i0 t1 i1 ifs0 ifs1 scope pos) 1 it acc env) R s := by
  refine codeAny_loop rfl I (fun n s hI => ?_) n h
  show wpAny _ A ((compTurn (sc2 elt t0 i0 t1 i1 ifs0 ifs1 scope pos) 1 it acc env).onRaise (fun x => do noteFrame x env; theTreesLotGoes x)) _ _ s
  refine wpAny_noted ?_
  rw [turnInner]
  refine wpAny_bind (wpAny_standAt (wpAny_bind (wpAny_mono (turn n s hI) (fun r a ha => ?_) fun _ _ z => z)))
  cases r with
  | none => exact wpAny_pure ha
  | some v =>
    refine wpAny_bind (wpAny_mono ha (fun _ b hb => wpAny_bind (wpAny_mono hb (fun _ c hc => wpAny_bind (wpAny_mono hc (fun ok d hd => ?_) fun _ _ z => z)) fun _ _ z => z)) fun _ _ z => z)
    cases ok with
    | false => exact wpAny_pure ⟨rfl, hd⟩
    | true =>
      exact wpAny_bind (wpAny_bind (wpAny_mono hd (fun x e he => wpAny_bind (wpAny_standAt (wpAny_bind (wpAny_mono he (fun _ f hf => wpAny_pure (wpAny_pure ⟨rfl, hf⟩)) fun _ _ z => z)))) fun _ _ z => z))
theorem inner_start (h0 : codeAny (model prog w) A (.compLoop (sc2 elt t0 i0 t1 i1 ifs0 ifs1 scope pos) 1 it acc env) R s)
    (h : wpAny (model prog w) A (pyIter it) (fun it' s' => codeAny (model prog w) A (.compLoop (sc2 elt t0 i0 t1 i1 ifs0 ifs1 scope pos) 1 it' acc env) R s') (notedBy (model prog w) A env fun x s' => R (.error x) s') s) :
    codeAny (model prog w) A (.compStart (sc2 elt t0 i0 t1 i1 ifs0 ifs1 scope pos) 1 it acc env) R s := by
  refine codeAny_of_tree ?_
  show wpAny _ _ ((compStart (sc2 elt t0 i0 t1 i1 ifs0 ifs1 scope pos) 1 it acc env).onRaise (fun x => do noteFrame x env; standAt theWindowsPlace)) _ _ s
  refine wpAny_notedAt ?_
  unfold compStart
  show wpAny _ _ (ask >>= _) _ _ s
  refine wpAny_bind (wpAny_askSetting (wpAny_ite ?_))
  split
  · first
      | exact wpAny_bind (wpAny_pure (wpAny_pure (And.intro rfl h0)))
      | exact wpAny_pure (And.intro rfl h0)
  · first
      | exact wpAny_bind (wpAny_rule (wpAny_bind (wpAny_standAt (wpAny_bind (wpAny_mono h (fun it' s' z => wpAny_pure (And.intro rfl z)) fun _ _ x => x)))))
      | (refine wpAny_bind (wpAny_rule ?_); show wpAny _ _ (standAt i1.pos >>= _) _ _ s; exact wpAny_bind (wpAny_standAt (wpAny_bind (wpAny_mono h (fun it' s' z => wpAny_pure (And.intro rfl z)) fun _ _ x => x))))
end
/-- what the new set is, as the machine lays it -/
abbrev setObj (w : World) : Obj := { cls := .type "set", dict := none, data := .set #[] 0 (.fresh 0 0 (!w.params.followText "set-order")) }
/-- a kind of set: e0 tells of the new one at D, Add of one member more -/
structure SKind (P : Program) (w : World) (e0 : Addr → HO) (Add : Addr → V → Hp → Hp → Prop) : Prop where
  new : ∀ (H : Hp) (h : Heap), ObjOk P w H (h.push (setObj w)) h.objs.size (e0 h.objs.size)
  add : ∀ (X : Cx), X.prog = P → X.w = w → ∀ (pins : List (Addr × Obj)) (σ : L2.St) (H H' : Hp) (s : Shared) (E : Value → Shared → Prop) (D : Addr) (y : V) (u : Value) (Q : Value → Shared → Prop), Inv X pins σ H s → RelV y u → Add D y H H' →
    (∀ s', Inv X pins σ H' s' → Q .none s') → wpAny (model X.prog X.w) X.A (call (.builtin "set.add") [.ref D, u]) Q E s
def tSc2 (e0 : Addr → HO) (Add : Addr → V → Hp → Hp → Prop) (wi : TI) (g : TG) (tt : TT) (wi1 : TI) (g1 : TG) (tt1 : TT) (te : TE) (vs vs1 : List Nat) : TE := fun σ H Q => wi σ H fun J H1 => ∀ D, H1 D = none → ∃ W : Nat → Nat → Hp → Prop, (∃ m, W 0 m (upd H1 D (e0 D))) ∧ ∀ i m H, W i m H →
  (J.stop i H ∧ Q (.ref D) H) ∨ (J.go i H ∧ ∃ Nx : Hp → Prop, (∀ H', Nx H' → ∃ m', m' < m ∧ W (i + 1) m' H') ∧ ∀ x H', J.yld i H x H' → g x (wipe σ vs) H' fun σ2 H2 => wipe σ2 vs = wipe σ vs ∧ tt σ2 H2 fun b H3 =>
    if b = true then wi1 σ2 H3 fun J1 H4 => ∃ W1 : Nat → Nat → Hp → Prop, (∃ m, W1 0 m H4) ∧ ∀ j k H, W1 j k H →
      (J1.stop j H ∧ Nx H) ∨ (J1.go j H ∧ ∃ Nx1 : Hp → Prop, (∀ H', Nx1 H' → ∃ k', k' < k ∧ W1 (j + 1) k' H') ∧ ∀ x H', J1.yld j H x H' → g1 x (wipe σ2 vs1) H' fun σ3 H5 => wipe σ3 vs1 = wipe σ2 vs1 ∧ tt1 σ3 H5 fun b H6 =>
        if b = true then te σ3 H6 fun y H7 => ∃ H8, Add D y H7 H8 ∧ Nx1 H8 else Nx1 H6)
    else Nx H3)
section
variable {X : Cx}
theorem sc2_core {e0 : Addr → HO} {Add : Addr → V → Hp → Hp → Prop} {pins : List (Addr × Obj)} {s : Shared} {σ : L2.St} {H : Hp} {Q : VK} {elt tg iter tg1 iter1 : Expr} {ifs ifs1 : List Expr} {scope : Scope} {own : List (PySem.Str × Nat)} {vs1 : List Nat} {pos pos' : Pos} {wi wi1 : TI} {g g1 : TG} {tt tt1 : TT} {te : TE} {use : Option (Value → Sem Unit)} {Qf : Value → Shared → Prop}
    (kd : SKind X.prog X.w e0 Add) (hc : X.calm = true) (hN : X.N.Nodup) (I : Inv X pins σ H s) (hi : PI X tg iter wi) (ok : BlkOk X.N X.env.scope scope own) (hv : ∀ i ∈ vs1, i ∈ own.map (·.2))
    (hg : ∀ (s : Shared) (H : Hp) (C : Addr) (cl : List (PySem.Str × Addr)) (fp : List Addr), PG (X.blk s H scope (compEnvC scope cl C X.env) fp) tg g)
    (ht : ∀ (s : Shared) (H : Hp) (C : Addr) (cl : List (PySem.Str × Addr)) (fp : List Addr), PTs (X.blk s H scope (compEnvC scope cl C X.env) fp) ifs tt)
    (he : ∀ (s : Shared) (H : Hp) (C : Addr) (cl : List (PySem.Str × Addr)) (fp : List Addr), PE (X.blk s H scope (compEnvC scope cl C X.env) fp) elt te)
    (hi1 : ∀ (s : Shared) (H : Hp) (C : Addr) (cl : List (PySem.Str × Addr)) (fp : List Addr), PI (X.blk s H scope (compEnvC scope cl C X.env) fp) tg1 iter1 wi1)
    (hg1 : ∀ (s : Shared) (H : Hp) (C : Addr) (cl : List (PySem.Str × Addr)) (fp : List Addr), PG (X.blk s H scope (compEnvC scope cl C X.env) fp) tg1 g1)
    (ht1 : ∀ (s : Shared) (H : Hp) (C : Addr) (cl : List (PySem.Str × Addr)) (fp : List Addr), PTs (X.blk s H scope (compEnvC scope cl C X.env) fp) ifs1 tt1)
    (hs : ∀ x, foldedSetIterable iter X.env x = pure x) (hs1 : ∀ env x, foldedSetIterable iter1 env x = pure x)
    (h : tSc2 e0 Add wi g tt wi1 g1 tt1 te (own.map (·.2)) vs1 σ H Q)
    (hRR : ∀ D C s' m H', Inv X pins σ H' s' → Q (.ref D) H' → s'.heap.Ns C m → FpOk X pins H' C → compPost (model X.prog X.w) X.A X.xe use Qf (.ref D) C (.ok .next) s') :
    wpAny (model X.prog X.w) X.A (comprehension (sc2 elt tg iter tg1 iter1 ifs ifs1 scope pos) scope X.env pos' (newSet (.type "set")) false (eval iter X.env) use) Qf X.xe s := by
  have closes : ∀ y ∈ scope.names, y.2 = .free → ∃ c, X.env.cells.lookup y.1 = some c := fun y hy e => (ok.free y hy e).elim (fun k => I.ok.has _ (.inl k)) fun k => I.ok.has _ (.inr k)
  refine wpAny_comprehension_free (use := use) rfl hs (closure_ok closes) ok.kind (fun y hy e => by rw [ok.uniq y hy, e]) (thn (hi.run pins s σ H _ I h) fun xv s1 hx => thn hx fun itv s2 h2 => ?_)
  obtain ⟨it, fp, tn, J, H2, e, I2, T, st2, f2, q⟩ := h2
  subst e
  refine newSet_ok (newEnv_comp ?_)
  generalize hD : s2.heap.objs.size = D
  obtain ⟨W, ⟨m0, w0⟩, turn⟩ := q D (I2.hok.fresh (Nat.le_of_eq hD))
  generalize hs3 : ({ s2 with heap := s2.heap.push (setObj X.w) } : Shared) = s3
  have h3 : s3.heap = s2.heap.push (setObj X.w) := by rw [← hs3]
  have I3 : Inv X pins σ (upd H2 D (e0 D)) s3 := by
    rw [← hs3]
    refine I2.laid (t' := s2.toks) (fun b o z => Heap.get?_push_of_some _ z) (Nat.le_of_eq hD) ?_
    rw [← hD]
    exact kd.new _ s2.heap
  have f3 : ∀ b ∈ fp, FpOk X pins (upd H2 D (e0 D)) b ∧ b < s3.heap.objs.size := fun b hb => by
    obtain ⟨o, eo, _⟩ := T.obj _ _ st2 b hb
    have lt : b < s2.heap.objs.size := Heap.lt_size eo
    refine ⟨⟨?_, (f2 b hb).2⟩, by rw [h3, Heap.size_push]; exact Nat.lt_succ_of_lt lt⟩
    rw [upd_ne (by rw [← hD]; exact Nat.ne_of_lt lt)]
    exact (f2 b hb).1
  have st3 : tn 0 s3.heap := T.keep _ _ _ st2 fun b _ o z => by rw [h3]; exact Heap.get?_push_of_some _ z
  have I4 := block_start I3 ok hN f3
  have j1 := hg s3 (upd H2 D (e0 D)) s3.heap.objs.size (cellsFrom (s3.heap.objs.size + 1) scope.names (cloFrom X.env.cells scope.names [])) fp
  have j2 := ht s3 (upd H2 D (e0 D)) s3.heap.objs.size (cellsFrom (s3.heap.objs.size + 1) scope.names (cloFrom X.env.cells scope.names [])) fp
  have j3 := he s3 (upd H2 D (e0 D)) s3.heap.objs.size (cellsFrom (s3.heap.objs.size + 1) scope.names (cloFrom X.env.cells scope.names [])) fp
  have j4 := hi1 s3 (upd H2 D (e0 D)) s3.heap.objs.size (cellsFrom (s3.heap.objs.size + 1) scope.names (cloFrom X.env.cells scope.names [])) fp
  have j5 := hg1 s3 (upd H2 D (e0 D)) s3.heap.objs.size (cellsFrom (s3.heap.objs.size + 1) scope.names (cloFrom X.env.cells scope.names [])) fp
  have j6 := ht1 s3 (upd H2 D (e0 D)) s3.heap.objs.size (cellsFrom (s3.heap.objs.size + 1) scope.names (cloFrom X.env.cells scope.names [])) fp
  show codeAny _ _ (.compStart (sc2 elt tg iter tg1 iter1 ifs ifs1 scope pos) 0 (.ref it) (.ref D) (compEnvC scope (cellsFrom (s3.heap.objs.size + 1) scope.names (cloFrom X.env.cells scope.names [])) s3.heap.objs.size X.env)) (compPost (model X.prog X.w) X.A X.xe use Qf (.ref D) s3.heap.objs.size) { s3 with heap := pushCells (s3.heap.push { cls := .type "dict", data := .dict #[] }) scope.names }
  have none3 : ∀ b ∈ fp, (upd H2 D (e0 D)) b = none := fun b hb => (f3 b hb).1.1
  generalize hce : compEnvC scope (cellsFrom (s3.heap.objs.size + 1) scope.names (cloFrom X.env.cells scope.names [])) s3.heap.objs.size X.env = ce at I4 j1 j2 j3 j4 j5 j6 ⊢
  have cL : ce.locals = s3.heap.objs.size := by subst hce; rfl
  generalize hH3 : upd H2 D (e0 D) = H3 at I3 I4 j1 j2 j3 j4 j5 j6 w0 none3 f3
  generalize hs4 : ({ s3 with heap := pushCells (s3.heap.push { cls := .type "dict", data := .dict #[] }) scope.names } : Shared) = s4 at I4 ⊢
  have st4 : tn 0 s4.heap := T.keep _ _ _ st3 fun b _ o z => by rw [← hs4]; exact pushCells_keeps _ _ _ _ (Heap.get?_push_of_some _ z)
  have own4 : ∀ {σ' : L2.St} {H' : Hp} {s' : Shared}, Inv (X.blk s3 H3 scope ce fp) [] σ' H' s' → (∀ b ∈ fp, H' b = none) → ∀ b ∈ fp, FpOk (X.blk s3 H3 scope ce fp) [] H' b := fun {σ' H' s'} I' hn b hb =>
    ⟨hn b hb, (I'.ok.exf b hb).1, I'.ok.exfs b hb, .inl hb, fun x c e => (I'.ok.exf b hb).2 x c e, fun p hp => absurd (show p ∈ ([] : List (Addr × Obj)) ++ [] from hp) (by simp)⟩
  have loop : codeAny (model X.prog X.w) X.A (.compLoop (sc2 elt tg iter tg1 iter1 ifs ifs1 scope pos) 0 (.ref it) (.ref D) ce) (compPost (model X.prog X.w) X.A X.xe use Qf (.ref D) s3.heap.objs.size) s4 := by
    refine outer_loop (hs1 ce) (fun n s' => ∃ i H', Inv (X.blk s3 H3 scope ce fp) [] (wipe σ (own.map (·.2))) H' s' ∧ tn i s'.heap ∧ (∀ b ∈ fp, H' b = none) ∧ W i n H') ?_ m0 ⟨0, H3, I4, st4, none3, w0⟩
    rintro n s5 ⟨i, H5, I5, st5, n5, w5⟩
    rcases turn i n H5 w5 with ⟨stop, qq⟩ | ⟨go, Nx, hNx, step⟩
    · refine thnF (T.done (X.blk s3 H3 scope ce fp) rfl rfl rfl hc i [] s5 _ H5 (fun _ _ => False) I5 (own4 I5 n5) st5 stop) fun r s6 ⟨hr, I6⟩ => ?_
      subst hr
      have I7 : Inv X pins σ H5 s6 := I3.call' (ch := fp) I6.os I6.base I6.hok I6.bare fun b hb => ⟨(f3 b hb).1.2.2.2.1, (f3 b hb).1.2.1, (f3 b hb).1.2.2.2.2.1, (f3 b hb).1.2.2.2.2.2⟩
      have nC : H5 s3.heap.objs.size = none := by
        have z : H5 ce.locals = none := I6.free
        rw [cL] at z
        exact z
      obtain ⟨m, hn, _⟩ := I6.loc
      have hn : s6.heap.Ns ce.locals m := hn
      rw [cL] at hn
      exact hRR D s3.heap.objs.size s6 m H5 I7 qq hn (I3.fpOk (Nat.le_refl _) nC)
    · refine thnF (T.item (X.blk s3 H3 scope ce fp) rfl rfl rfl hc i [] s5 _ H5 (fun _ _ => False) I5 (own4 I5 n5) st5 go) fun r s6 ⟨u, hr, h6⟩ => ?_
      subst hr
      refine thnF h6 fun _ s7 ⟨x, H7, I7, r7, y7, st7, n7⟩ => ?_
      refine thnF (j1.run _ s7 _ H7 x u _ (I7.pinned (own4 I7 n7) (T.obj _ _ st7)) r7 (step x H7 y7)) fun _ s8 ⟨σ8, H8, I8, hw8, q8⟩ => ?_
      refine thnF (j2.run _ s8 σ8 H8 _ I8 q8) fun b s9 ⟨H9, I9, q9⟩ => ?_
      have over : ∀ {σ9 : L2.St} {s' : Shared} {H' : Hp}, Inv (X.blk s3 H3 scope ce fp) ([] ++ pinsAt fp s7.heap) σ9 H' s' → (wipe σ (own.map (·.2))).length = σ9.length → (∀ (j : Nat) v, (wipe σ (own.map (·.2)))[j]? = some (some v) → σ9[j]? = some (some v)) → Nx H' →
          ∃ m, m < n ∧ ∃ i H', Inv (X.blk s3 H3 scope ce fp) [] (wipe σ (own.map (·.2))) H' s' ∧ tn i s'.heap ∧ (∀ b ∈ fp, H' b = none) ∧ W i m H' := fun {σ9 s' H'} I' hl hk nx => by
        obtain ⟨m', hm, w'⟩ := hNx H' nx
        have pin : ∀ b ∈ fp, ∀ o, s7.heap.get? b = some o → s'.heap.get? b = some o ∧ H' b = none := fun b hb o z =>
          have y := I'.pin (b, o) (List.mem_append_right _ (List.mem_append_right _ (mem_pinsAt hb z)))
          ⟨y.1, y.2.1⟩
        refine ⟨m', hm, i + 1, H', (I'.unpinned (pins := [])).weak hl hk, T.keep _ _ _ st7 fun b hb o z => (pin b hb o z).1, fun b hb => ?_, w'⟩
        obtain ⟨o, z, _⟩ := T.obj _ _ st7 b hb
        exact (pin b hb o z).2
      have l8 : (wipe σ (own.map (·.2))).length = σ8.length := by rw [← hw8, wipe_length]
      have k8 : ∀ (j : Nat) v, (wipe σ (own.map (·.2)))[j]? = some (some v) → σ8[j]? = some (some v) := fun j v z => by
        rw [← hw8] at z
        exact (wipe_some z).1
      have k9 : ∀ (j : Nat) v, (wipe σ (own.map (·.2)))[j]? = some (some v) → (wipe σ8 vs1)[j]? = some (some v) := fun j v z => by
        rw [← hw8] at z
        obtain ⟨z1, z2⟩ := wipe_some z
        rw [wipe_out fun m => z2 (hv j m)]
        exact z1
      cases b with
      | false =>
        simp only [Bool.false_eq_true, if_false] at q9 ⊢
        exact over I9 l8 k8 q9
      | true =>
        simp only [if_true] at q9 ⊢
        refine thnF (j4.run _ s9 σ8 H9 _ I9 q9) fun xv s10 hx => thnF hx fun itv s11 h11 => ?_
        obtain ⟨it1, fp1, tn1, J1, H11, e1, I11, T1, st11, f11, W1, ⟨m1, w1⟩, turn1⟩ := h11
        subst e1
        have own1 : ∀ {H' : Hp}, (∀ b ∈ fp1, H' b = none) → ∀ b ∈ fp1, FpOk (X.blk s3 H3 scope ce fp) ([] ++ pinsAt fp s7.heap) H' b := fun hn b hb => ⟨hn b hb, (f11 b hb).2⟩
        have loop1 : codeAny (model X.prog X.w) X.A (.compLoop (sc2 elt tg iter tg1 iter1 ifs ifs1 scope pos) 1 (.ref it1) (.ref D) ce)
            (fun r s' => match r with
              | .ok _ => ∃ m, m < n ∧ ∃ i H', Inv (X.blk s3 H3 scope ce fp) [] (wipe σ (own.map (·.2))) H' s' ∧ tn i s'.heap ∧ (∀ b ∈ fp, H' b = none) ∧ W i m H'
              | .error _ => False) s11 := by
          refine inner_loop (fun k s' => ∃ j H', Inv (X.blk s3 H3 scope ce fp) ([] ++ pinsAt fp s7.heap) (wipe σ8 vs1) H' s' ∧ tn1 j s'.heap ∧ (∀ b ∈ fp1, H' b = none) ∧ W1 j k H') ?_ m1 ⟨0, H11, I11.weak (wipe_length _ _) (fun j v z => (wipe_some z).1), st11, fun b hb => (f11 b hb).1, w1⟩
          rintro k s12 ⟨j, H12, I12, st12, n12, w12⟩
          rcases turn1 j k H12 w12 with ⟨stop1, nx1⟩ | ⟨go1, Nx1, hNx1, step1⟩
          · refine thnF (T1.done (X.blk s3 H3 scope ce fp) rfl rfl rfl hc j _ s12 (wipe σ8 vs1) H12 (fun _ _ => False) I12 (own1 n12) st12 stop1) fun r s13 ⟨hr, I13⟩ => ?_
            subst hr
            exact over I13 (l8.trans (wipe_length σ8 vs1).symm) k9 nx1
          · refine thnF (T1.item (X.blk s3 H3 scope ce fp) rfl rfl rfl hc j _ s12 (wipe σ8 vs1) H12 (fun _ _ => False) I12 (own1 n12) st12 go1) fun r s13 ⟨u1, hr, h13⟩ => ?_
            subst hr
            refine thnF h13 fun _ s14 ⟨x1, H14, I14, r14, y14, st14, n14⟩ => ?_
            refine thnF (j5.run _ s14 (wipe σ8 vs1) H14 x1 u1 _ (I14.pinned (own1 n14) (T1.obj _ _ st14)) r14 (step1 x1 H14 y14)) fun _ s15 ⟨σ15, H15, I15, hw15, q15⟩ => ?_
            refine thnF (j6.run _ s15 σ15 H15 _ I15 q15) fun b1 s16 ⟨H16, I16, q16⟩ => ?_
            have over1 : ∀ {s' : Shared} {H' : Hp}, Inv (X.blk s3 H3 scope ce fp) (([] ++ pinsAt fp s7.heap) ++ pinsAt fp1 s14.heap) σ15 H' s' → Nx1 H' → ∃ m, m < k ∧ ∃ j H', Inv (X.blk s3 H3 scope ce fp) ([] ++ pinsAt fp s7.heap) (wipe σ8 vs1) H' s' ∧ tn1 j s'.heap ∧ (∀ b ∈ fp1, H' b = none) ∧ W1 j m H' := fun {s' H'} I' nx => by
              obtain ⟨m', hm, w'⟩ := hNx1 H' nx
              have pin : ∀ b ∈ fp1, ∀ o, s14.heap.get? b = some o → s'.heap.get? b = some o ∧ H' b = none := fun b hb o z =>
                have y := I'.pin (b, o) (List.mem_append_right _ (List.mem_append_right _ (mem_pinsAt hb z)))
                ⟨y.1, y.2.1⟩
              refine ⟨m', hm, j + 1, H', I'.unpinned.weak (by rw [← hw15, wipe_length]) (fun j v z => by rw [← hw15] at z; exact (wipe_some z).1), T1.keep _ _ _ st14 fun b hb o z => (pin b hb o z).1, fun b hb => ?_, w'⟩
              obtain ⟨o, z, _⟩ := T1.obj _ _ st14 b hb
              exact (pin b hb o z).2
            cases b1 with
            | false =>
              simp only [Bool.false_eq_true, if_false] at q16 ⊢
              exact over1 I16 q16
            | true =>
              simp only [if_true] at q16 ⊢
              refine thnF (j3.run _ s16 σ15 H16 _ I16 q16) fun z s17 ⟨yv, H17, I17, r17, H18, ad, nx⟩ => ?_
              exact kd.add (X.blk s3 H3 scope ce fp) rfl rfl _ _ _ _ _ _ _ _ _ _ I17 r17 ad fun s18 I18 => over1 I18 nx
        exact inner_start loop1 (T1.self X.A 0 _ _ _ st11 loop1)
  exact codeAny_compStart_set loop (T.self X.A 0 _ _ _ st4 loop)
theorem pe_sc2 {e0 : Addr → HO} {Add : Addr → V → Hp → Hp → Prop} {elt tg iter tg1 iter1 : Expr} {ifs ifs1 : List Expr} {scope : Scope} {own : List (PySem.Str × Nat)} {vs1 : List Nat} {pos : Pos} {wi wi1 : TI} {g g1 : TG} {tt tt1 : TT} {te : TE}
    (kd : SKind X.prog X.w e0 Add) (hc : X.calm = true) (hN : X.N.Nodup) (hi : PI X tg iter wi) (ok : BlkOk X.N X.env.scope scope own) (hv : ∀ i ∈ vs1, i ∈ own.map (·.2))
    (hg : ∀ (s : Shared) (H : Hp) (C : Addr) (cl : List (PySem.Str × Addr)) (fp : List Addr), PG (X.blk s H scope (compEnvC scope cl C X.env) fp) tg g)
    (ht : ∀ (s : Shared) (H : Hp) (C : Addr) (cl : List (PySem.Str × Addr)) (fp : List Addr), PTs (X.blk s H scope (compEnvC scope cl C X.env) fp) ifs tt)
    (hi1 : ∀ (s : Shared) (H : Hp) (C : Addr) (cl : List (PySem.Str × Addr)) (fp : List Addr), PI (X.blk s H scope (compEnvC scope cl C X.env) fp) tg1 iter1 wi1)
    (hg1 : ∀ (s : Shared) (H : Hp) (C : Addr) (cl : List (PySem.Str × Addr)) (fp : List Addr), PG (X.blk s H scope (compEnvC scope cl C X.env) fp) tg1 g1)
    (ht1 : ∀ (s : Shared) (H : Hp) (C : Addr) (cl : List (PySem.Str × Addr)) (fp : List Addr), PTs (X.blk s H scope (compEnvC scope cl C X.env) fp) ifs1 tt1)
    (he : ∀ (s : Shared) (H : Hp) (C : Addr) (cl : List (PySem.Str × Addr)) (fp : List Addr), PE (X.blk s H scope (compEnvC scope cl C X.env) fp) elt te)
    (hs : ∀ x, foldedSetIterable iter X.env x = pure x := by intro _; rfl) (hs1 : ∀ env x, foldedSetIterable iter1 env x = pure x := by intro _ _; rfl) :
    PE X (sc2 elt tg iter tg1 iter1 ifs ifs1 scope pos) (tSc2 e0 Add wi g tt wi1 g1 tt1 te (own.map (·.2)) vs1) := by
  refine ⟨fun pins s σ H Q I h => ?_⟩
  rw [eval_SetComp]
  refine sc2_core kd hc hN I hi ok hv hg ht he hi1 hg1 ht1 hs hs1 h fun D C s' m H' I' q hn f => ⟨m, hn, fun h'' sb => ?_⟩
  obtain ⟨f0, f1, f2, f3, f4, f5⟩ := f
  exact ⟨.ref D, H', I'.turned (t' := s'.toks) (fun b o hb z => (sb.2 b hb).trans z) f0 f1 f3 f4 f5, rfl, q⟩
end
/-- the kind of a set to which nothing is added: it stays the empty set of ints -/
theorem kind0 (P : Program) (w : World) : SKind P w (fun D => SetO w D (fun _ => false) 0) (fun _ _ _ _ => False) where
  new := fun H h => setO_new (by
    refine ⟨_, #[], 0, _, Heap.get?_push_size _ rfl, ⟨rfl, rfl, rfl⟩, rfl, (fun e he => by simp at he), (by simp), (fun k => by simp), (by decide), (by rfl), rfl, List.Pairwise.nil, ?_⟩
    show _ ∨ (!w.params.followText "set-order") = true
    cases w.params.followText "set-order"
    · exact .inr rfl
    · exact .inl rfl)
  add := fun _ _ _ _ _ _ _ _ _ _ _ _ _ _ _ ad _ => ad.elim
end Oh
/-! Set comprehensions of one clause, over any kind of member. -/
namespace Oh
open PySem PySem.Spec PyProof.Rows L2 PpSet
section
variable {X : Cx}
/-- {elt for target in iter if ..} -/
def tSc1 (e0 : Addr → HO) (Add : Addr → V → Hp → Hp → Prop) (wi : TI) (g : TG) (tt : TT) (te : TE) (vs : List Nat) : TE := fun σ H Q => wi σ H fun J H1 => ∀ D, H1 D = none → ∃ W : Nat → Nat → Hp → Prop, (∃ m, W 0 m (upd H1 D (e0 D))) ∧ ∀ i m H, W i m H →
  (J.stop i H ∧ Q (.ref D) H) ∨ (J.go i H ∧ ∃ Nx : Hp → Prop, (∀ H', Nx H' → ∃ m', m' < m ∧ W (i + 1) m' H') ∧ ∀ x H', J.yld i H x H' → g x (wipe σ vs) H' fun σ2 H2 => wipe σ2 vs = wipe σ vs ∧ tt σ2 H2 fun b H3 =>
    if b = true then te σ2 H3 fun y H4 => ∃ H5, Add D y H4 H5 ∧ Nx H5 else Nx H3)
theorem sc1_core {e0 : Addr → HO} {Add : Addr → V → Hp → Hp → Prop} {pins : List (Addr × Obj)} {s : Shared} {σ : L2.St} {H : Hp} {Q : VK} {elt tg iter : Expr} {ifs : List Expr} {scope : Scope} {own : List (PySem.Str × Nat)} {pos pos' : Pos} {wi : TI} {g : TG} {tt : TT} {te : TE} {use : Option (Value → Sem Unit)} {Qf : Value → Shared → Prop}
    (kd : SKind X.prog X.w e0 Add) (hc : X.calm = true) (hN : X.N.Nodup) (I : Inv X pins σ H s) (hi : PI X tg iter wi) (ok : BlkOk X.N X.env.scope scope own)
    (hg : ∀ (s : Shared) (H : Hp) (C : Addr) (cl : List (PySem.Str × Addr)) (fp : List Addr), PG (X.blk s H scope (compEnvC scope cl C X.env) fp) tg g)
    (ht : ∀ (s : Shared) (H : Hp) (C : Addr) (cl : List (PySem.Str × Addr)) (fp : List Addr), PTs (X.blk s H scope (compEnvC scope cl C X.env) fp) ifs tt)
    (he : ∀ (s : Shared) (H : Hp) (C : Addr) (cl : List (PySem.Str × Addr)) (fp : List Addr), PE (X.blk s H scope (compEnvC scope cl C X.env) fp) elt te)
    (hs : ∀ x, foldedSetIterable iter X.env x = pure x) (h : tSc1 e0 Add wi g tt te (own.map (·.2)) σ H Q)
    (hRR : ∀ D C s' m H', Inv X pins σ H' s' → Q (.ref D) H' → s'.heap.Ns C m → FpOk X pins H' C → compPost (model X.prog X.w) X.A X.xe use Qf (.ref D) C (.ok .next) s') :
    wpAny (model X.prog X.w) X.A (comprehension (.SetComp elt [⟨tg, iter, ifs, 0⟩] scope pos) scope X.env pos' (newSet (.type "set")) false (eval iter X.env) use) Qf X.xe s := by
  have closes : ∀ y ∈ scope.names, y.2 = .free → ∃ c, X.env.cells.lookup y.1 = some c := fun y hy e => (ok.free y hy e).elim (fun k => I.ok.has _ (.inl k)) fun k => I.ok.has _ (.inr k)
  refine wpAny_comprehension_free (use := use) rfl hs (closure_ok closes) ok.kind (fun y hy e => by rw [ok.uniq y hy, e]) (thn (hi.run pins s σ H _ I h) fun xv s1 hx => thn hx fun itv s2 h2 => ?_)
  obtain ⟨it, fp, tn, J, H2, e, I2, T, st2, f2, q⟩ := h2
  subst e
  refine newSet_ok (newEnv_comp ?_)
  generalize hD : s2.heap.objs.size = D
  obtain ⟨W, ⟨m0, w0⟩, turn⟩ := q D (I2.hok.fresh (Nat.le_of_eq hD))
  generalize hs3 : ({ s2 with heap := s2.heap.push (setObj X.w) } : Shared) = s3
  have h3 : s3.heap = s2.heap.push (setObj X.w) := by rw [← hs3]
  have I3 : Inv X pins σ (upd H2 D (e0 D)) s3 := by
    rw [← hs3]
    refine I2.laid (t' := s2.toks) (fun b o z => Heap.get?_push_of_some _ z) (Nat.le_of_eq hD) ?_
    rw [← hD]
    exact kd.new _ s2.heap
  have f3 : ∀ b ∈ fp, FpOk X pins (upd H2 D (e0 D)) b ∧ b < s3.heap.objs.size := fun b hb => by
    obtain ⟨o, eo, _⟩ := T.obj _ _ st2 b hb
    have lt : b < s2.heap.objs.size := Heap.lt_size eo
    refine ⟨⟨?_, (f2 b hb).2⟩, by rw [h3, Heap.size_push]; exact Nat.lt_succ_of_lt lt⟩
    rw [upd_ne (by rw [← hD]; exact Nat.ne_of_lt lt)]
    exact (f2 b hb).1
  have st3 : tn 0 s3.heap := T.keep _ _ _ st2 fun b _ o z => by rw [h3]; exact Heap.get?_push_of_some _ z
  have I4 := block_start I3 ok hN f3
  have j1 := hg s3 (upd H2 D (e0 D)) s3.heap.objs.size (cellsFrom (s3.heap.objs.size + 1) scope.names (cloFrom X.env.cells scope.names [])) fp
  have j2 := ht s3 (upd H2 D (e0 D)) s3.heap.objs.size (cellsFrom (s3.heap.objs.size + 1) scope.names (cloFrom X.env.cells scope.names [])) fp
  have j3 := he s3 (upd H2 D (e0 D)) s3.heap.objs.size (cellsFrom (s3.heap.objs.size + 1) scope.names (cloFrom X.env.cells scope.names [])) fp
  show codeAny _ _ (.compStart (.SetComp elt [⟨tg, iter, ifs, 0⟩] scope pos) 0 (.ref it) (.ref D) (compEnvC scope (cellsFrom (s3.heap.objs.size + 1) scope.names (cloFrom X.env.cells scope.names [])) s3.heap.objs.size X.env)) (compPost (model X.prog X.w) X.A X.xe use Qf (.ref D) s3.heap.objs.size) { s3 with heap := pushCells (s3.heap.push { cls := .type "dict", data := .dict #[] }) scope.names }
  have none3 : ∀ b ∈ fp, (upd H2 D (e0 D)) b = none := fun b hb => (f3 b hb).1.1
  generalize hce : compEnvC scope (cellsFrom (s3.heap.objs.size + 1) scope.names (cloFrom X.env.cells scope.names [])) s3.heap.objs.size X.env = ce at I4 j1 j2 j3 ⊢
  have cL : ce.locals = s3.heap.objs.size := by subst hce; rfl
  generalize hH3 : upd H2 D (e0 D) = H3 at I3 I4 j1 j2 j3 w0 none3 f3
  generalize hs4 : ({ s3 with heap := pushCells (s3.heap.push { cls := .type "dict", data := .dict #[] }) scope.names } : Shared) = s4 at I4 ⊢
  have st4 : tn 0 s4.heap := T.keep _ _ _ st3 fun b _ o z => by rw [← hs4]; exact pushCells_keeps _ _ _ _ (Heap.get?_push_of_some _ z)
  have own4 : ∀ {σ' : L2.St} {H' : Hp} {s' : Shared}, Inv (X.blk s3 H3 scope ce fp) [] σ' H' s' → (∀ b ∈ fp, H' b = none) → ∀ b ∈ fp, FpOk (X.blk s3 H3 scope ce fp) [] H' b := fun {σ' H' s'} I' hn b hb =>
    ⟨hn b hb, (I'.ok.exf b hb).1, I'.ok.exfs b hb, .inl hb, fun x c e => (I'.ok.exf b hb).2 x c e, fun p hp => absurd (show p ∈ ([] : List (Addr × Obj)) ++ [] from hp) (by simp)⟩
  have loop : codeAny (model X.prog X.w) X.A (.compLoop (.SetComp elt [⟨tg, iter, ifs, 0⟩] scope pos) 0 (.ref it) (.ref D) ce) (compPost (model X.prog X.w) X.A X.xe use Qf (.ref D) s3.heap.objs.size) s4 := by
    refine compLoopS_any (fun n s' => ∃ i H', Inv (X.blk s3 H3 scope ce fp) [] (wipe σ (own.map (·.2))) H' s' ∧ tn i s'.heap ∧ (∀ b ∈ fp, H' b = none) ∧ W i n H') ?_ m0 ⟨0, H3, I4, st4, none3, w0⟩
    rintro n s5 ⟨i, H5, I5, st5, n5, w5⟩
    rcases turn i n H5 w5 with ⟨stop, qq⟩ | ⟨go, Nx, hNx, step⟩
    · refine thnF (T.done (X.blk s3 H3 scope ce fp) rfl rfl rfl hc i [] s5 _ H5 (fun _ _ => False) I5 (own4 I5 n5) st5 stop) fun r s6 ⟨hr, I6⟩ => ?_
      subst hr
      have I7 : Inv X pins σ H5 s6 := I3.call' (ch := fp) I6.os I6.base I6.hok I6.bare fun b hb => ⟨(f3 b hb).1.2.2.2.1, (f3 b hb).1.2.1, (f3 b hb).1.2.2.2.2.1, (f3 b hb).1.2.2.2.2.2⟩
      have nC : H5 s3.heap.objs.size = none := by
        have z : H5 ce.locals = none := I6.free
        rw [cL] at z
        exact z
      obtain ⟨m, hn, _⟩ := I6.loc
      have hn : s6.heap.Ns ce.locals m := hn
      rw [cL] at hn
      exact hRR D s3.heap.objs.size s6 m H5 I7 qq hn (I3.fpOk (Nat.le_refl _) nC)
    · refine thnF (T.item (X.blk s3 H3 scope ce fp) rfl rfl rfl hc i [] s5 _ H5 (fun _ _ => False) I5 (own4 I5 n5) st5 go) fun r s6 ⟨u, hr, h6⟩ => ?_
      subst hr
      refine thnF h6 fun _ s7 ⟨x, H7, I7, r7, y7, st7, n7⟩ => ?_
      refine thnF (j1.run _ s7 _ H7 x u _ (I7.pinned (own4 I7 n7) (T.obj _ _ st7)) r7 (step x H7 y7)) fun _ s8 ⟨σ8, H8, I8, hw8, q8⟩ => ?_
      refine thnF (j2.run _ s8 σ8 H8 _ I8 q8) fun b s9 ⟨H9, I9, q9⟩ => ?_
      have over : ∀ {s' : Shared} {H' : Hp}, Inv (X.blk s3 H3 scope ce fp) ([] ++ pinsAt fp s7.heap) σ8 H' s' → Nx H' → ∃ m, m < n ∧ ∃ i H', Inv (X.blk s3 H3 scope ce fp) [] (wipe σ (own.map (·.2))) H' s' ∧ tn i s'.heap ∧ (∀ b ∈ fp, H' b = none) ∧ W i m H' := fun {s' H'} I' nx => by
        obtain ⟨m', hm, w'⟩ := hNx H' nx
        have pin : ∀ b ∈ fp, ∀ o, s7.heap.get? b = some o → s'.heap.get? b = some o ∧ H' b = none := fun b hb o z =>
          have y := I'.pin (b, o) (List.mem_append_right _ (List.mem_append_right _ (mem_pinsAt hb z)))
          ⟨y.1, y.2.1⟩
        refine ⟨m', hm, i + 1, H', (I'.unpinned (pins := [])).weak (by rw [← hw8, wipe_length]) (fun j v z => by rw [← hw8] at z; exact (wipe_some z).1), T.keep _ _ _ st7 fun b hb o z => (pin b hb o z).1, fun b hb => ?_, w'⟩
        obtain ⟨o, z, _⟩ := T.obj _ _ st7 b hb
        exact (pin b hb o z).2
      cases b with
      | false =>
        simp only [Bool.false_eq_true, if_false] at q9 ⊢
        exact over I9 q9
      | true =>
        simp only [if_true] at q9 ⊢
        refine thnF (j3.run _ s9 σ8 H9 _ I9 q9) fun z s10 ⟨y, H10, I10, r10, H11, ad, nx⟩ => ?_
        exact kd.add (X.blk s3 H3 scope ce fp) rfl rfl _ _ _ _ _ _ _ _ _ _ I10 r10 ad fun s11 I11 => over I11 nx
  exact codeAny_compStart_set loop (T.self X.A 0 _ _ _ st4 loop)
theorem pe_sc1 {e0 : Addr → HO} {Add : Addr → V → Hp → Hp → Prop} {elt tg iter : Expr} {ifs : List Expr} {scope : Scope} {own : List (PySem.Str × Nat)} {pos : Pos} {wi : TI} {g : TG} {tt : TT} {te : TE} (kd : SKind X.prog X.w e0 Add) (hc : X.calm = true) (hN : X.N.Nodup) (hi : PI X tg iter wi) (ok : BlkOk X.N X.env.scope scope own)
    (hg : ∀ (s : Shared) (H : Hp) (C : Addr) (cl : List (PySem.Str × Addr)) (fp : List Addr), PG (X.blk s H scope (compEnvC scope cl C X.env) fp) tg g)
    (ht : ∀ (s : Shared) (H : Hp) (C : Addr) (cl : List (PySem.Str × Addr)) (fp : List Addr), PTs (X.blk s H scope (compEnvC scope cl C X.env) fp) ifs tt)
    (he : ∀ (s : Shared) (H : Hp) (C : Addr) (cl : List (PySem.Str × Addr)) (fp : List Addr), PE (X.blk s H scope (compEnvC scope cl C X.env) fp) elt te) (hs : ∀ x, foldedSetIterable iter X.env x = pure x := by intro _; rfl) :
    PE X (.SetComp elt [⟨tg, iter, ifs, 0⟩] scope pos) (tSc1 e0 Add wi g tt te (own.map (·.2))) := by
  refine ⟨fun pins s σ H Q I h => ?_⟩
  rw [eval_SetComp]
  refine sc1_core kd hc hN I hi ok hg ht he hs h fun D C s' m H' I' q hn f => ⟨m, hn, fun h'' sb => ?_⟩
  obtain ⟨f0, f1, f2, f3, f4, f5⟩ := f
  exact ⟨.ref D, H', I'.turned (t' := s'.toks) (fun b o hb z => (sb.2 b hb).trans z) f0 f1 f3 f4 f5, rfl, q⟩
end
end Oh
/-! A set of texts whose table can be walked: made, added to, sorted. -/
namespace Tx
open PySem PySem.Spec PyProof.Rows L2 Oh PpSet
def kOf (e : Int × Value) : Str := match e.2 with
  | .str k _ => k
  | _ => Str.empty
def Row (w : World) (e : Int × Value) : Prop := ∃ (k : Str) (u : Tok), e.2 = Value.str k u ∧ e.1 = hashStr w k
/-- the texts at a: S tells which, n how many -/
def SetX (w : World) (h : Heap) (a : Addr) (S : Str → Bool) (n : Nat) : Prop :=
  ∃ (ob : Obj) (rows : Array (Int × Value)) (epo : Nat) (tab : SetTable), h.get? a = some ob ∧ ob.ExactSet ∧ ob.data = .set rows epo tab ∧ ((∀ e ∈ rows.toList, Row w e) ∧ (rows.toList.map kOf).Nodup ∧ ∀ k, S k = true ↔ k ∈ rows.toList.map kOf) ∧
    (rows.size < scanBound ∧ tab.fits rows.size = true ∧ rows.size = n) ∧ Ris tab.place.toList ∧ (w.params.followText "set-order" = true ∨ tab.led = true)
section
variable {P : Program} {w : World} {h h' : Heap} {a : Addr} {S : Str → Bool} {n : Nat}
theorem SetX.keep (R : SetX w h a S n) (k : ∀ ob, h.get? a = some ob → h'.get? a = some ob) : SetX w h' a S n := by
  obtain ⟨ob, rows, epo, tab, oa, rest⟩ := R
  exact ⟨ob, rows, epo, tab, k ob oa, rest⟩
theorem row_is {e : Int × Value} (r : Row w e) (k : Str) : (strKind P w).is k e.2 = true ↔ kOf e = k := by
  obtain ⟨k0, u, e2, _⟩ := r
  unfold kOf
  rw [e2]
  constructor
  · intro z
    exact (strKind P w).inj _ _ _ (strKind_is P w k0 u) z
  · rintro rfl
    exact strKind_is P w k0 u
theorem rows_elems {l : List (Int × Value)} (r : ∀ e ∈ l, Row w e) : ElemsOf (strKind P w) l := by
  intro e me
  obtain ⟨k, u, e2, e1⟩ := r e me
  exact ⟨⟨k, by rw [e2]; exact strKind_is P w k u, e1⟩, by rw [e2]; rfl⟩
theorem rows_mem {l : List (Int × Value)} (r : ∀ e ∈ l, Row w e) (k : Str) : k ∈ l.map kOf ↔ ∃ e ∈ l, (strKind P w).is k e.2 = true := by
  rw [List.mem_map]
  exact ⟨fun ⟨e, me, z⟩ => ⟨e, me, (row_is (r e me) k).mpr z⟩, fun ⟨e, me, z⟩ => ⟨e, me, (row_is (r e me) k).mp z⟩⟩
theorem SetX.setOf (R : SetX w h a S n) : h.SetOf (strKind P w) a S n := by
  obtain ⟨ob, rows, epo, tab, oa, ox, od, ⟨rr, _, rm⟩, ⟨rb, rf, rn⟩, _⟩ := R
  exact ⟨ob, rows, epo, tab, oa, ox, od, rows_elems rr, fun k => (rm k).trans (rows_mem rr k), rb, rf, rn⟩
theorem setX_fresh (w : World) (h : Heap) : SetX w (h.push (setObj w)) h.objs.size (fun _ => false) 0 := by
  refine ⟨_, #[], 0, _, Heap.get?_push_size _ rfl, ⟨rfl, rfl, rfl⟩, rfl, ⟨fun e me => by simp at me, by simp, fun k => by simp⟩, ⟨by decide, by rfl, rfl⟩, List.Pairwise.nil, ?_⟩
  show _ ∨ (!w.params.followText "set-order") = true
  cases w.params.followText "set-order" <;> simp
end
section
variable {P : Program} {w : World} {A : Around} {E : Value → Shared → Prop} {s : Shared} {a : Addr} {S : Str → Bool} {n : Nat}
theorem add_store {g : Bool → Sem Unit} (hg : ∀ (b : Bool) (s1 : Shared) (Z : Unit → Shared → Prop), Z () s1 → wpAny (model P w) A (g b) Z E s1) {ob : Obj} {r0 r1 : Array (Int × Value)} {epo : Nat} {tab tab1 : SetTable} (oa : s.heap.get? a = some ob) (ox : ob.ExactSet) (od : ob.data = .set r0 epo tab)
    {S1 : Str → Bool} (rr : ∀ e ∈ r1.toList, Row w e) (rd : (r1.toList.map kOf).Nodup) (rm : ∀ k, S1 k = true ↔ k ∈ r1.toList.map kOf) (rb : r1.size < scanBound) (rf : tab1.fits r1.size = true) (ri : Ris tab1.place.toList) (rl : w.params.followText "set-order" = true ∨ tab1.led = true)
    {dm : Bool} {Z : Option Bool → Shared → Prop} (hZ : ∀ h1, Heap.SameBut a s.heap h1 → SetX w h1 a S1 r1.size → Z (some true) { s with heap := h1 }) :
    wpAny (model P w) A (do
        storeSet a r1 tab1
        if (!dm && tab1.tooFull) = true then do
            g (relayAll tab1 r1 (SetTable.grown r1.size)).2.2
            storeSet a (relayAll tab1 r1 (SetTable.grown r1.size)).1 (relayAll tab1 r1 (SetTable.grown r1.size)).2.1
            pure (some true)
          else pure (some true)) Z E s := by
  refine wpAny_bind (wpAny_storeSet_of oa od ?_ (fits_of_scanBound rb))
  have oa1 := store_at (es' := r1) (t' := tab1) oa od
  have sb1 := Heap.SameBut.update s.heap a (Obj.putSet r1 tab1)
  split
  · have q1 := relayAll_perm tab1 r1 (SetTable.grown r1.size)
    have q2 := relayAll_fits tab1 r1 (SetTable.grown r1.size)
    have q3 := relayAll_ris tab1 r1 (SetTable.grown r1.size)
    have q4 := relayAll_led tab1 r1 (SetTable.grown r1.size)
    generalize relayAll tab1 r1 (SetTable.grown r1.size) = big at q1 q2 q3 q4 ⊢
    obtain ⟨r2, tab2, gave⟩ := big
    dsimp only at q1 q2 q3 q4 ⊢
    have sz : r2.size = r1.size := by rw [← Array.length_toList, q1.length_eq, Array.length_toList]
    refine wpAny_bind (hg _ _ _ ?_)
    refine wpAny_bind (wpAny_storeSet_of oa1 rfl ?_ (fits_of_scanBound (by rw [sz]; exact rb)))
    have oa2 := store_at (es' := r2) (t' := tab2) oa1 rfl
    refine wpAny_pure (hZ _ (sb1.trans (Heap.SameBut.update _ a _)) ⟨_, r2, _, tab2, oa2, ox, rfl, ⟨fun e me => rr e (q1.mem_iff.mp me), (q1.map kOf).nodup_iff.mpr rd, fun k => (rm k).trans (q1.map kOf).mem_iff.symm⟩, ⟨by rw [sz]; exact rb, q2, sz⟩, q3, ?_⟩)
    rcases rl with z | z
    · exact .inl z
    · exact .inr (q4.trans z)
  · exact wpAny_pure (hZ _ sb1 ⟨_, r1, _, tab1, oa1, ox, rfl, ⟨rr, rd, rm⟩, ⟨rb, rf, rfl⟩, ri, rl⟩)
theorem add_hashed {k : Str} {u : Tok} {Q : Bool → Shared → Prop} (R : SetX w s.heap a S n) (room : n + 1 < scanBound)
    (hQ : ∀ h1, Heap.SameBut a s.heap h1 → SetX w h1 a (fun j => S j || decide (j = k)) (if S k = true then n else n + 1) → Q (!S k) { s with heap := h1 }) :
    wpAny (model P w) A (setAddHashed a (.str k u) ((strKind P w).hash k)) Q E s := by
  obtain ⟨ob, rows, epo, tab, oa, ox, od, ⟨rr, rd, rm⟩, ⟨rb, rf, rn⟩, ri, rl⟩ := R
  have isk : (strKind P w).is k (.str k u) = true := strKind_is P w k u
  have sc : (Value.str k u).scannable = true := rfl
  have els : ElemsOf (strKind P w) rows.toList := rows_elems rr
  unfold setAddHashed setAddHashedIn
  refine wpAny_holding (wpAny_bind (wpAny_setState_of oa od rf ?_))
  dsimp only
  rw [byScan_of sc rb els]
  simp only [↓reduceIte]
  unfold setAddByScan
  refine wpAny_bind (wpAny_bind (wpAny_rule (wpAny_bind (wpAny_setScan_of isk oa od rf els ?_))))
  cases fd : List.findIdx? (fun e => (strKind P w).is k e.2) rows.toList with
  | some j =>
    dsimp only
    obtain ⟨lj, pj, _⟩ := List.findIdx?_eq_some_iff_getElem.mp fd
    have has : S k = true := (rm k).mpr ((rows_mem (P := P) rr k).mpr ⟨rows.toList[j], List.getElem_mem lj, pj⟩)
    have q := hQ s.heap (Heap.SameBut.refl a s.heap) ⟨ob, rows, epo, tab, oa, ox, od, ⟨rr, rd, fun i => by
      rw [Bool.or_eq_true, decide_eq_true_eq, ← rm i]
      exact ⟨fun z => z.elim id (fun e => e ▸ has), .inl⟩⟩, ⟨rb, rf, by rw [if_pos has]; exact rn⟩, ri, rl⟩
    rw [has] at q
    exact wpAny_pure (wpAny_pure q)
  | none =>
    dsimp only
    have nk : k ∉ rows.toList.map kOf := fun z => by
      obtain ⟨e, me, q⟩ := (rows_mem (P := P) rr k).mp z
      have c := List.findIdx?_eq_none_iff.mp fd e me
      rw [q] at c
      cases c
    have no : S k = false := by
      cases q : S k with
      | false => rfl
      | true => exact absurd ((rm k).mp q) nk
    have gw : ∀ (b : Bool) {s1 : Shared} {Z : Unit → Shared → Prop}, Z () s1 → wpAny (model P w) A (match b with | true => rule "set.scan.the-table-gave-way" | false => pure ()) Z E s1 := by
      intro b s1 Z z
      cases b
      · exact wpAny_pure z
      · exact wpAny_rule z
    have l1 := layNew_perm tab rows ((strKind P w).hash k) (.str k u)
    have l2 := layNew_fits tab rows ((strKind P w).hash k) (.str k u)
    have l3 := layNew_ris tab rows ((strKind P w).hash k) (.str k u) ri
    have l4 := layNew_led tab rows ((strKind P w).hash k) (.str k u)
    generalize layNew tab rows ((strKind P w).hash k) (.str k u) = big at l1 l2 l3 l4 ⊢
    obtain ⟨r1, tab1, dm, gave⟩ := big
    dsimp only at l1 l2 l3 l4 ⊢
    rw [Array.toList_push] at l1
    have pc : r1.toList.Perm (((strKind P w).hash k, Value.str k u) :: rows.toList) := l1.trans (List.perm_append_singleton _ _)
    have pk : (r1.toList.map kOf).Perm (k :: rows.toList.map kOf) := pc.map kOf
    have rr1 : ∀ e ∈ r1.toList, Row w e := by
      intro e me
      rcases List.mem_cons.mp (pc.mem_iff.mp me) with z | z
      · rw [z]
        exact ⟨k, u, rfl, rfl⟩
      · exact rr e z
    have rd1 : (r1.toList.map kOf).Nodup := pk.nodup_iff.mpr (List.nodup_cons.mpr ⟨nk, rd⟩)
    have rm1 : ∀ i, (S i || decide (i = k)) = true ↔ i ∈ r1.toList.map kOf := by
      intro i
      rw [Bool.or_eq_true, decide_eq_true_eq, rm i, pk.mem_iff, List.mem_cons]
      exact Or.comm
    have sz : r1.size = n + 1 := by rw [← Array.length_toList, pc.length_eq, List.length_cons, Array.length_toList, rn]
    have rb1 : r1.size < scanBound := by rw [sz]; exact room
    have rl1 : w.params.followText "set-order" = true ∨ tab1.led = true := by
      rcases rl with z | z
      · exact .inl z
      · exact .inr (l4.trans z)
    have fin : ∀ h1, Heap.SameBut a s.heap h1 → SetX w h1 a (fun j => S j || decide (j = k)) r1.size → Q true { s with heap := h1 } := by
      intro h1 sb z
      have q := hQ h1 sb
      rw [no] at q
      rw [sz] at z
      exact q z
    refine wpAny_bind (gw _ ?_)
    split
    · refine wpAny_bind ?_
      rw [hashByValue_scannable 8 sc]
      refine wpAny_pure (add_store (fun b s1 Z z => by cases b <;> first | exact wpAny_pure z | exact wpAny_rule z) oa ox od rr1 rd1 rm1 rb1 ?_ ?_ ?_ ?_)
      · first | exact l2 | (split <;> first | exact l2 | exact SetTable.fits_plain_off l2)
      · first | exact l3 | (split <;> exact l3)
      · first | exact rl1 | (split <;> exact rl1)
      · intro h1 sb z
        dsimp only
        exact wpAny_pure (fin h1 sb z)
    · refine wpAny_bind (wpAny_pure ?_)
      simp only [↓reduceIte]
      refine add_store (fun b s1 Z z => by cases b <;> first | exact wpAny_pure z | exact wpAny_rule z) oa ox od rr1 rd1 rm1 rb1 l2 l3 rl1 ?_
      intro h1 sb z
      dsimp only
      exact wpAny_pure (fin h1 sb z)
/-- found.add(k), the method as the comprehension calls it -/
theorem add_call {k : Str} {u : Tok} {Q : Value → Shared → Prop} (R : SetX w s.heap a S n) (room : n + 1 < scanBound)
    (hQ : ∀ h1, Heap.SameBut a s.heap h1 → SetX w h1 a (fun j => S j || decide (j = k)) (if S k = true then n else n + 1) → Q .none { s with heap := h1, toks := s.toks + 1 }) :
    wpAny (model P w) A (call (.builtin "set.add") [.ref a, .str k u]) Q E s := by
  have so : s.heap.SetOf (strKind P w) a S n := R.setOf
  refine wpAny_call_entry F.slot_set_add so.typeIs F.entry_set_add ?_ (F.args_set_add_2 _ _)
  unfold Builtin.«set.add» Builtin.Frozenset.oneOther
  simp only [List.isEmpty_nil, bind_assoc]
  unfold Builtin.Frozenset.addrOf setAdd
  refine wpAny_bind (wpAny_pure ?_)
  try dsimp only
  refine wpAny_bind (wpAny_pure ?_)
  try dsimp only
  refine wpAny_bind (wpAny_holding (wpAny_bind ((strKind P w).pyHash (strKind_is P w k u) ?_)))
  refine add_hashed (s := { s with toks := s.toks + 1 }) R room fun h1 sb z => ?_
  show wpAny _ _ (ret Value.none) _ _ _
  exact wpAny_pure ⟨_, rfl, hQ h1 sb z⟩
theorem strs_of : ∀ (l : List Value), (∀ v ∈ l, ∃ (k : Str) (u : Tok), v = Value.str k u) → ∃ ks, StrsAre l ks ∧ ks = l.map fun v => kOf (0, v)
  | [], _ => ⟨[], .nil, rfl⟩
  | v :: l, m => by
    obtain ⟨k, u, rfl⟩ := m v List.mem_cons_self
    obtain ⟨ks, h1, h2⟩ := strs_of l fun x mx => m x (List.mem_cons_of_mem _ mx)
    exact ⟨k :: ks, .cons k u h1, by rw [h2]; rfl⟩
/-- sorted(found), fewer than 64 texts -/
theorem sorted_call {Q : Value → Shared → Prop} (R : SetX w s.heap a S n) (hh : A.handled = none) (lt : n < 64)
    (hQ : ∀ s' p (out : Array Value) (c : Nat) (ys : List Str), (∀ b ob, s.heap.get? b = some ob → s'.heap.get? b = some ob) → s'.gens = s.gens → s'.os = s.os → s.heap.objs.size ≤ p →
      s'.heap.get? p = some (seqObj "list" out c) → StrsAre out.toList ys → sortedS ys = true → ys.Nodup → (∀ k, k ∈ ys ↔ S k = true) → ys.length = n → Q (.ref p) s') : wpAny (model P w) A (call (.builtin "sorted") [.ref a]) Q E s := by
  obtain ⟨ob, rows, epo, tab, oa, ox, od, ⟨rr, rd, rm⟩, ⟨rb, rf, rn⟩, ri, rl⟩ := R
  refine Calls.call_function_entry kind_sorted plain_sorted entry_sorted (args_sorted1 _) ?_
  unfold Builtin.«sorted»
  refine wpAny_bind (m := checkCount "sorted" 1 1 _) (wpAny_pure ?_)
  refine wpAny_bind (collect_set (A := A.in1) hh ⟨ob, oa, ox.1, od⟩ rf rb ri rl fun s1 vs k1 z1 g1 o1 pm => ?_)
  have lv : vs.length = n := by rw [pm.length_eq, List.length_map, Array.length_toList]; exact rn
  obtain ⟨ks, sk, ek⟩ := strs_of vs fun v mv => by
    obtain ⟨e, me, q⟩ := List.mem_map.mp (pm.mem_iff.mp mv)
    obtain ⟨k, u, e2, _⟩ := rr e me
    exact ⟨k, u, by rw [← q]; exact e2⟩
  have pk : ks.Perm (rows.toList.map kOf) := by
    rw [ek]
    have q := pm.map fun v => kOf (0, v)
    rw [List.map_map] at q
    exact q
  refine wpAny_bind (wpAny_newList ?_ (by rw [lv, sizeLine_eq]; omega))
  have oL : (s1.heap.push (seqObj "list" vs.toArray 0)).get? s1.heap.objs.size = some (seqObj "list" vs.toArray 0) := Heap.get?_push_size _ rfl
  refine wpAny_bind (wpAny_holding (wpAny_call_entry slot_list_sort ⟨_, oL, rfl⟩ entry_list_sort
    (list_sort_treeK strKind_oneLt oL sk.keysOf (fun v1 v2 rest e => keyKind_strs (by rw [← e]; exact sk)) (by rw [lv]; exact lt) fun st hp hs => ⟨_, rfl, ?_⟩) (args_list_sort _)))
  obtain ⟨ys, y1, y2, y3⟩ := sorted_out_str sk hp hs
  obtain ⟨c, hc⟩ := sortedHeap_at (vs := vs) (out := (arrOf st).map (·.2)) oL
  have py : ys.Perm (rows.toList.map kOf) := y2.trans pk
  refine wpAny_pure ⟨_, rfl, hQ _ s1.heap.objs.size ((arrOf st).map (·.2)) c ys (fun b u e => ?_) g1 o1 z1 hc y1 y3 (py.nodup_iff.mpr rd) (fun k => by rw [py.mem_iff, ← rm k]) ?_⟩
  · have q := k1 b u e
    have lb := Heap.lt_size q
    show (sortedHeap (s1.heap.push (seqObj "list" vs.toArray 0)) s1.heap.objs.size vs ((arrOf st).map (·.2))).get? b = some u
    rw [sortedHeap_old (Nat.ne_of_lt lb) (by rw [size_push']; exact Nat.lt_succ_of_lt lb)]
    exact Heap.get?_push_of_some _ q
  · rw [py.length_eq, List.length_map, Array.length_toList]
    exact rn
end
end Tx
/-! A set of texts among the tracked objects. -/
namespace Oh
open PySem PySem.Spec PyProof.Rows L2 Tx
def SetTO (w : World) (a : Addr) (S : Str → Bool) (n : Nat) : HO := .ext fun h => SetX w h a S n
theorem setT_new {w : World} {P : Program} {H : Hp} {h : Heap} {a : Addr} {S : Str → Bool} {n : Nat} (R : SetX w h a S n) : ObjOk P w H h a (SetTO w a S n) := by
  have ⟨ob, _, _, _, oa, _⟩ := R
  exact ⟨R, ⟨ob, oa⟩, fun _ _ z k => SetX.keep z k⟩
section
variable {X : Cx}
theorem setT_get {pins : List (Addr × Obj)} {σ : L2.St} {H : Hp} {s : Shared} {a : Addr} {S : Str → Bool} {n : Nat} (I : Inv X pins σ H s) (ha : H a = some (SetTO X.w a S n)) : SetX X.w s.heap a S n := (I.hok a _ ha).1
/-- one text more -/
def AddT (w : World) : Addr → V → Hp → Hp → Prop := fun D y H H' => ∃ (k : Str) (S : Str → Bool) (n : Nat), y = .str k ∧ H D = some (SetTO w D S n) ∧ n + 1 < scanBound ∧ H' = upd H D (SetTO w D (fun j => S j || decide (j = k)) (if S k = true then n else n + 1))
theorem kindT (P : Program) (w : World) : SKind P w (fun D => SetTO w D (fun _ => false) 0) (AddT w) where
  new := fun H h => setT_new (setX_fresh w h)
  add := by
    rintro X rfl rfl pins σ H H' s E D y u Q I ry ⟨k, S, n, rfl, hD, room, rfl⟩ q
    obtain ⟨t, rfl⟩ := (show ∃ t, u = Value.str k t from ry)
    refine add_call (setT_get I hD) room fun h1 sb new => ?_
    have there : ∃ ob, h1.get? D = some ob := by
      have ⟨ob, _, _, _, oa, _⟩ := new
      exact ⟨ob, oa⟩
    exact q _ (I.write (e := D) (t' := s.toks + 1) (by rw [hD]; trivial) (.inl rfl) (fun b ob hb hu => (sb.2 b hb).trans hu) there (setT_new new))
/-- sorted(a set of fewer than 64 texts) -/
def rSortedT (w : World) : List V → Hp → VK → Prop := fun vs H Q => ∃ (a : Addr) (S : Str → Bool) (n : Nat), vs = [V.ref a] ∧ H a = some (SetTO w a S n) ∧ n < 64 ∧
  ∀ (ys : List Str) (p : Addr), sortedS ys = true → ys.Nodup → (∀ k, k ∈ ys ↔ S k = true) → ys.length = n → H p = none → Q (.ref p) (upd H p (.lst (ys.map V.str)))
theorem cr_sortedT (hc : X.calm = true) : CallR X (.builtin "sorted") (rSortedT X.w) := by
  intro pins s σ H vs us Q I r h
  obtain ⟨a, S, n, rfl, ha, lt, q⟩ := h
  rw [Vals.ref1 r]
  refine sorted_call (setT_get I ha) (I.ok.hd hc) lt fun s' p out c ys k g o hp hg sy y1 nd hm hl => ?_
  have hlen : (ys.map V.str).length ≤ sizeLine := by rw [List.length_map, hl, sizeLine_eq]; omega
  have hn : H p = none := I.hok.fresh hp
  have J : Inv X pins σ (upd H p (.lst (ys.map V.str))) { s with heap := s'.heap, gens := s'.gens, drawn := s'.drawn, toks := s'.toks } :=
    I.call (ch := []) (Un.laid k hp hn) (I.hok.laid k hp ⟨hlen, out.toList, c, vals_of_strs sy, hg⟩) (by rw [g]; exact I.bare) (fun _ z => nomatch z)
  have e : s' = { s with heap := s'.heap, gens := s'.gens, drawn := s'.drawn, toks := s'.toks } := by
    cases s'
    cases s
    cases o
    rfl
  rw [e]
  exact ⟨.ref p, _, J, rfl, q ys p y1 nd hm hl hn⟩
end
end Oh
namespace Oh
open PySem PySem.Spec PyProof.Rows L2 PpSet
theorem call_lenT {X : Cx} : CallR X (.builtin "len") (fun xs H Q => ∃ (a : Addr) (S : Str → Bool) (n : Nat), xs = [.ref a] ∧ H a = some (SetTO X.w a S n) ∧ Q (.int n) H) := by
  intro pins s σ H xs us Q I r h
  obtain ⟨a, S, n, rfl, ha, q⟩ := h
  rw [Vals.ref1 r]
  obtain ⟨ob, rows, epo, tab, oa, ox, od, _, ⟨rb, rf, rn⟩, _⟩ := setT_get I ha
  have small : (rows.size : Int) < 2 ^ 63 := by
    have h1 : rows.size < scanBound := rb
    have h2 : scanBound ≤ 2 ^ 62 := by decide
    omega
  exact call_len_set oa ox od rf small ⟨.int n, H, (I.tok _).tok _, ⟨_, by rw [rn]⟩, q⟩
theorem sc1_it {e0 : Addr → HO} {Add : Addr → V → Hp → Hp → Prop} {J : It} {n : Nat} {G : Hp → Prop} {Y : Nat → Hp → V → Hp → Prop} (w : Walk J n G Y) {g : TG} {tt : TT} {te : TE} {vs : List Nat} {σ : L2.St} {H1 : Hp} {D : Addr} {Qd : Hp → Prop} (Pv : Nat → Hp → Prop) (h0 : Pv 0 (upd H1 D (e0 D)))
    (hG : ∀ i H, i ≤ n → Pv i H → G H) (hs : ∀ i x H H', i < n → Pv i H → Y i H x H' → g x (wipe σ vs) H' fun σ2 H2 => wipe σ2 vs = wipe σ vs ∧ tt σ2 H2 fun b H3 => if b = true then te σ2 H3 fun y H4 => ∃ H5, Add D y H4 H5 ∧ Pv (i + 1) H5 else Pv (i + 1) H3) (hd : ∀ H, Pv n H → Qd H) :
    ∃ W : Nat → Nat → Hp → Prop, (∃ m, W 0 m (upd H1 D (e0 D))) ∧ ∀ i m H, W i m H → (J.stop i H ∧ Qd H) ∨ (J.go i H ∧ ∃ Nx : Hp → Prop, (∀ H', Nx H' → ∃ m', m' < m ∧ W (i + 1) m' H') ∧ ∀ x H', J.yld i H x H' → g x (wipe σ vs) H' fun σ2 H2 => wipe σ2 vs = wipe σ vs ∧ tt σ2 H2 fun b H3 =>
      if b = true then te σ2 H3 fun y H4 => ∃ H5, Add D y H4 H5 ∧ Nx H5 else Nx H3) := by
  refine ⟨fun i m H => m = n - i ∧ i ≤ n ∧ Pv i H, ⟨n, by simp, Nat.zero_le _, h0⟩, ?_⟩
  rintro i m H ⟨rfl, hi, p⟩
  have q := hG i H hi p
  by_cases hlt : i < n
  · exact .inr ⟨w.goes i H hlt q, Pv (i + 1), fun H' p' => ⟨n - (i + 1), by omega, rfl, hlt, p'⟩, fun x H' y => hs i x H H' hlt p (w.yields i H x H' hlt q y)⟩
  · have e : i = n := by omega
    subst e
    exact .inl ⟨w.stops H q, hd H p⟩
theorem row_inv {d : DT} (h : rowB d = true) : ∃ l s, d = .tup l ∧ l[0]? = some (.str s) ∧ portB d = s := by
  unfold rowB at h
  obtain ⟨h1, h⟩ := Bool.and_eq_true_iff.mp h
  obtain ⟨h2, h⟩ := Bool.and_eq_true_iff.mp h
  cases d with
  | tup l =>
    have hl : l.length = 3 := beq_iff_eq.mp h1
    match l, hl with
    | [a, b, c], _ =>
      cases a with
      | str s => exact ⟨_, s, rfl, rfl, rfl⟩
      | _ => cases h2
  | _ => cases h1
/-- the texts told apart -/
theorem nodup_snoc {l : List Str} {k : Str} : (l ++ [k]).Nodup ↔ l.Nodup ∧ k ∉ l := by
  rw [List.nodup_append]
  constructor
  · rintro ⟨h1, _, h3⟩
    exact ⟨h1, fun m => h3 k m k (List.mem_singleton.mpr rfl) rfl⟩
  · rintro ⟨h1, h2⟩
    refine ⟨h1, by simp, fun a ma b mb e => ?_⟩
    rw [List.mem_singleton] at mb
    exact h2 (mb ▸ e ▸ ma)
section
variable {P : Program} {w : World} {K : PySem.W.Frag} {mg : Str → Option Value} {base : Heap} {kw pk ck : Addr}
theorem scIsRow : FnScope ["value"] ["value"] (defScope sIsRow) := ⟨rfl, rfl, rfl, by decide +kernel, rfl, by decide +kernel, by decide +kernel⟩
theorem ok_isRow {f fN fB : Addr} {fd fdN fdB : FuncData} (F : Fun K "_is_row" "_is_row" sIsRow f fd) (T : TxtF K mg kw)
    (GN : FnOk P w K mg base CX0 1 fN fdN ["value"] (spB K nameB)) (kN : PySem.W.keepIn K (.ref fN) = true) (bN : Binds K fdN ["value"] []) (mN : mg "is_name" = some (.ref fN))
    (GB : FnOk P w K mg base CX0 1 fB fdB ["value"] (spB K blockB)) (kB : PySem.W.keepIn K (.ref fB) = true) (bB : Binds K fdB ["value"] []) (mB : mg "is_block" = some (.ref fB)) : FnOk P w K mg base CX0 2 f fd ["value"] (spB K rowB) := by
  refine F.ok scIsRow (fun vs H Q E h => ?_) (fun cdv A outer s H vs Q E hr h => ?_)
  · obtain ⟨v, d, rfl, _⟩ := h
    rfl
  · obtain ⟨v, d, rfl, r, k⟩ := h
    have k0 := k H (Same.refl H)
    obtain ⟨t1, y1, z1⟩ := isi_of r (.inr (.inr (.inr rfl)))
    refine ⟨_, pss_cons (ps_if (pw_or (pt_not (pt_val (pe_isi (pv 0) mono_var T.isi T.tuple bb_tuple))) (pw_or1 (pt_cmpR op_ne (pe_callB call_len_seq (by rfl) T.len boot_len (pa_cons (pv 0) pa_nil)) pe_int (nomark _)))).pt (pss_one (ps_ret pe_bl)) pss_nil)
      (pss_one (ps_ret (pe_and (pe_call GN hr (by rfl) mN kN bN .nil pass0 (pa_cons (pe_ix ix_tup (pv 0) pe_int (fun _ _ => rfl)) pa_nil)) (pe_and (pe_call GN hr (by rfl) mN kN bN .nil pass0 (pa_cons (pe_ix ix_tup (pv 0) pe_int (fun _ _ => rfl)) pa_nil))
        (pe_one (pe_call GB hr (by rfl) mB kB bB .nil pass0 (pa_cons (pe_ix ix_tup (pv 0) pe_int (fun _ _ => rfl)) pa_nil))))))), ?_⟩
    refine ⟨_, rfl, t1, _, y1, z1, _, rfl, ?_⟩
    cases hb : isB d "tuple" with
    | false =>
      have e : rowB d = false := by cases d <;> first | rfl | cases hb
      rw [e] at k0
      exact iteT k0
    | true =>
      refine iteF ?_
      obtain ⟨l, rfl⟩ := isTup hb
      obtain ⟨p, xs, rfl, hp, ra⟩ := r.tup_inv
      have hl := ra.len
      refine ⟨_, rfl, p, xs, rfl, .inr (SqT.of hp), rfl, _, rfl, ?_⟩
      show if (!decide (V.int xs.length = V.int 3)) = true then _ else _
      by_cases c : xs.length = 3
      · rw [decide_eq_true (show V.int xs.length = V.int 3 by rw [c]; rfl)]
        refine iteF ?_
        have e1 : rowB (.tup l) = (nameB (argB (.tup l) 0) && (nameB (argB (.tup l) 1) && blockB (argB (.tup l) 2))) := by
          show ((l.length == 3) && _) = _
          rw [← hl, c]
          rfl
        obtain ⟨v0, x0, r0⟩ := arg_at (i := 0) ra (by omega)
        obtain ⟨v1, x1, r1⟩ := arg_at (i := 1) ra (by omega)
        obtain ⟨v2, x2, r2⟩ := arg_at (i := 2) ra (by omega)
        refine ⟨_, rfl, p, _, _, _, rfl, rfl, SqT.of hp, at_of (j := 0) rfl x0, v0, _, rfl, r0, fun H1 s1 => ⟨_, rfl, ?_⟩⟩
        rw [e1] at k
        cases hb : nameB (argB (.tup l) 0) with
        | false =>
          rw [hb, Bool.false_and] at k
          exact iteF (k H1 s1)
        | true =>
          rw [hb, Bool.true_and] at k
          refine iteT ⟨_, rfl, p, _, _, _, rfl, rfl, SqT.of (s1 _ _ hp), at_of (j := 1) rfl x1, v1, _, rfl, r1.keep s1, fun H2 s2 => ⟨_, rfl, ?_⟩⟩
          have s12 := s1.trans s2
          cases hc : nameB (argB (.tup l) 1) with
          | false =>
            rw [hc, Bool.false_and] at k
            exact iteF (k H2 s12)
          | true =>
            rw [hc, Bool.true_and] at k
            exact iteT ⟨_, rfl, p, _, _, _, rfl, rfl, SqT.of (s12 _ _ hp), at_of (j := 2) rfl x2, v2, _, rfl, r2.keep s12, fun H3 s3 => k H3 (s12.trans s3)⟩
      · rw [decide_eq_false (fun z => c (by have := V.int.inj z; omega))]
        have e1 : rowB (.tup l) = false := by
          show ((l.length == 3) && _) = _
          rw [← hl, beq_eq_false_iff_ne.mpr c, Bool.false_and]
        rw [e1] at k0
        exact iteT k0
abbrev nWa : List Str := ["value", "rows", "row"]
theorem scIsWait : FnScope nWa ["value"] (defScope sIsWait) := ⟨rfl, rfl, rfl, by decide +kernel, rfl, by decide +kernel, by decide +kernel⟩
theorem ok_isWait {f fC fR : Addr} {fd fdC fdR : FuncData} (F : Fun K "_is_wait" "_is_wait" sIsWait f fd) (T : TxtF K mg kw)
    (GC : FnOk P w K mg base CX0 1 fC fdC ["value"] (spB K choiceB)) (kC : PySem.W.keepIn K (.ref fC) = true) (bC : Binds K fdC ["value"] []) (mC : mg "_is_choice" = some (.ref fC))
    (GR : FnOk P w K mg base CX0 2 fR fdR ["value"] (spB K rowB)) (kR : PySem.W.keepIn K (.ref fR) = true) (bR : Binds K fdR ["value"] []) (mR : mg "_is_row" = some (.ref fR)) : FnOk P w K mg base CX0 8 f fd ["value"] (spT K waitB) := by
  refine F.ok scIsWait (fun vs H Q E h => ?_) (fun cdv A outer s H vs Q E hr h => ?_)
  · obtain ⟨v, l, rfl, _⟩ := h
    rfl
  · obtain ⟨v, l, rfl, r, k⟩ := h
    have hr1 : Room 1 _ := hr.mono (by decide)
    have hr2 : Room 2 _ := hr.mono (by decide)
    obtain ⟨p, xs, rfl, hp, ra⟩ := r.tup_inv
    have hl := ra.len
    refine ⟨_, pss_cons (ps_if (pw_or (pt_cmpR op_ne (pe_callB call_len_seq (by rfl) T.len boot_len (pa_cons (pv 0) pa_nil)) pe_int (nomark _)) (pw_or1 (pt_not (pt_val (pe_call GC hr1 (by rfl) mC kC bC .nil pass0 (pa_cons (pe_ix ix_tup (pv 0) pe_int (fun _ _ => rfl)) pa_nil)))))).pt (pss_one (ps_ret pe_bl)) pss_nil)
      (pss_cons (ps_set (i := 1) scIsWait.nd rfl (Or.inl rfl) (pe_ix ix_tup (pv 0) pe_int (fun _ _ => rfl)))
      (pss_one (ps_ret (pe_and (pe_callB (cr_all rfl) (by rfl) T.all boot_allO (pa_cons
        (pe_lc (own := [("row", 2)]) (g := gName 2) (tt := tYes) rfl scIsWait.nd (pi_tup (pv 1)) (blkOk_by (N := nWa) (sc := defScope sIsWait) (by decide +kernel)) (fun _ _ _ _ _ => pg_name (i := 2) scIsWait.nd rfl (Or.inl rfl)) (fun _ _ _ _ _ => pts_nil)
          (fun _ _ _ _ _ => pe_call GR hr2 (by rfl) mR kR bR .nil pass0 (pa_cons (pv 2) pa_nil))) pa_nil))
        (pe_one (pe_cmpR op_eq (pe_callB call_lenT (by rfl) T.len boot_len (pa_cons
          (pe_sc1 (own := [("row", 2)]) (g := gName 2) (tt := tYes) (te := tOp (rIxT K) (tVar 2) (tC (.int 0))) (kindT P w) rfl scIsWait.nd (pi_tup (pv 1)) (blkOk_by (N := nWa) (sc := defScope sIsWait) (by decide +kernel)) (fun _ _ _ _ _ => pg_name (i := 2) scIsWait.nd rfl (Or.inl rfl)) (fun _ _ _ _ _ => pts_nil)
            (fun _ _ _ _ _ => pe_ix ix_tup (pv 2) pe_int (fun _ _ => rfl))) pa_nil)) (pe_callB call_len_seq (by rfl) T.len boot_len (pa_cons (pv 1) pa_nil)) (nomark _))))))), ?_⟩
    refine ⟨_, rfl, p, xs, rfl, .inr (SqT.of hp), rfl, _, rfl, ?_⟩
    show if (!decide (V.int xs.length = V.int 2)) = true then _ else _
    by_cases c : xs.length = 2
    · rw [decide_eq_true (show V.int xs.length = V.int 2 by rw [c]; rfl)]
      refine iteF ?_
      have e1 : waitB (.tup l) = (choiceB (argB (.tup l) 1) && (((listB (argB (.tup l) 1)).map rowB).all id && decide ((listB (argB (.tup l) 1)).map portB).Nodup)) := by
        show ((l.length == 2) && _) = _
        rw [← hl, c]
        rfl
      obtain ⟨v1, x1, r1⟩ := arg_at (i := 1) ra (by omega)
      refine ⟨_, rfl, p, _, _, _, rfl, rfl, SqT.of hp, at_of (j := 1) rfl x1, v1, _, rfl, r1, fun H1 s1 => ⟨_, rfl, ?_⟩⟩
      rw [e1] at k
      cases hb : choiceB (argB (.tup l) 1) with
      | false =>
        rw [hb, Bool.false_and] at k
        exact iteT (k H1 s1)
      | true =>
        refine iteF ?_
        obtain ⟨m, em, lm⟩ := choice_inv hb
        rw [hb, Bool.true_and, em] at k
        rw [em] at r1
        obtain ⟨q, ys, rfl, hq, rm⟩ := (r1.keep s1).tup_inv
        have lym := rm.len
        refine ⟨_, rfl, p, _, _, _, rfl, rfl, SqT.of (s1 _ _ hp), at_of (j := 1) rfl x1, ?_⟩
        refine ⟨_, rfl, q, rfl, ⟨_, SqT.of hq⟩, fun D nD => lc_it (walk_tup (xs := ys)) (fun i H' => Same H1 H' ∧ H' D = some (.lst (((m.map rowB).take i).map V.bl))) ⟨Same.new nD, upd_same⟩ (fun i H' _ z => SqT.of (z.1 _ _ hq)) ?_ ?_⟩
        · rintro i x Ha Hb hi ⟨sa, da⟩ ⟨e, ex⟩
          subst e
          have li : i < m.length := by rw [← lym]; exact hi
          obtain ⟨vi, ev, rv⟩ := rm.get (i := i) (d := m[i]) (List.getElem?_eq_getElem li)
          obtain rfl := Option.some.inj (ev.symm.trans ex)
          have lc : (m.map rowB)[i]? = some (rowB m[i]) := by rw [List.getElem?_map, List.getElem?_eq_getElem li]; rfl
          refine ⟨rfl, _, rfl, vi, m[i], rfl, rv.keep sa, fun Hc sc => ⟨_, sc _ _ da, ?_, fun b o e => ?_, ?_⟩⟩
          · rw [List.length_map, List.length_take, List.length_map]
            exact Nat.lt_of_le_of_lt (Nat.min_le_right _ _) (Nat.lt_of_le_of_lt lm (by decide))
          · rw [upd_ne (ne_of_none e nD)]
            exact sc _ _ (sa _ _ e)
          · rw [upd_same, List.take_add_one, lc]
            simp
        · rintro H2 ⟨s2, d2⟩
          refine ⟨D, m.map rowB, rfl, SqL.of ?_, _, rfl, ?_⟩
          · rw [d2, List.take_of_length_le]
            rw [List.length_map, lym]
            exact Nat.le_refl _
          have s12 := s1.trans s2
          cases ha : ((m.map rowB).all id) with
          | false =>
            have k2 := k H2 s12
            rw [show listB (.tup m) = m from rfl, ha, Bool.false_and] at k2
            exact iteF k2
          | true =>
            rw [show listB (.tup m) = m from rfl, ha, Bool.true_and] at k
            refine iteT ?_
            have rows : ∀ d ∈ m, rowB d = true := fun d md => List.all_eq_true.mp ha _ (List.mem_map_of_mem md)
            have hq2 := s2 _ _ hq
            have rm2 := rm.keep s2
            refine ⟨_, rfl, q, rfl, ⟨_, SqT.of hq2⟩, fun D2 nD2 => sc1_it (walk_tup (xs := ys)) (fun i H' => Same H2 H' ∧ ∃ n, H' D2 = some (SetTO w D2 (fun k => decide (k ∈ (m.map portB).take i)) n) ∧ n ≤ i ∧ (n = i ↔ ((m.map portB).take i).Nodup)) ⟨Same.new nD2, 0, (by rw [upd_same]), Nat.le_refl _, (by simp)⟩ (fun i H' _ z => SqT.of (z.1 _ _ hq2)) ?_ ?_⟩
            · rintro i x Ha Hb hi ⟨sa, n, da, ln, nn⟩ ⟨e, ex⟩
              subst e
              have li : i < m.length := by rw [← lym]; exact hi
              obtain ⟨vi, ev, rv⟩ := rm2.get (i := i) (d := m[i]) (List.getElem?_eq_getElem li)
              obtain rfl := Option.some.inj (ev.symm.trans ex)
              obtain ⟨lr, z, el, ez, ep⟩ := row_inv (rows _ (List.getElem_mem li))
              rw [el] at rv
              obtain ⟨pr, xr, rfl, hpr, rr⟩ := (rv.keep sa).tup_inv
              obtain ⟨vz, evz, rz⟩ := rr.get (i := 0) ez
              cases rz
              have lc : (m.map portB)[i]? = some z := by rw [List.getElem?_map, List.getElem?_eq_getElem li, ← ep]; rfl
              have tk : (m.map portB).take (i + 1) = (m.map portB).take i ++ [z] := by rw [List.take_add_one, lc]; rfl
              refine ⟨rfl, _, rfl, pr, _, _, _, rfl, rfl, SqT.of hpr, at_of (j := 0) rfl evz, _, ⟨z, _, n, rfl, da, ?_, rfl⟩, fun b o e => ?_, (if decide (z ∈ (m.map portB).take i) = true then n else n + 1), ?_, ?_, ?_⟩
              · exact Nat.lt_of_le_of_lt (show n + 1 ≤ 5 by omega) (by decide)
              · rw [upd_ne (ne_of_none e nD2)]
                exact sa _ _ e
              · rw [upd_same, tk]
                congr 2
                funext j
                simp [List.mem_append]
              · split <;> omega
              · rw [tk, nodup_snoc]
                by_cases cz : z ∈ (m.map portB).take i
                · rw [if_pos (decide_eq_true cz)]
                  exact ⟨fun q => absurd q (by omega), fun q => absurd cz q.2⟩
                · rw [if_neg (by simpa using cz)]
                  rw [← nn]
                  exact ⟨fun q => ⟨by omega, cz⟩, fun q => by omega⟩
            · rintro H3 ⟨s3, n, d3, ln, nn⟩
              rw [show (m.map portB).take ys.length = m.map portB by rw [List.take_of_length_le]; rw [List.length_map, lym]; exact Nat.le_refl _] at nn
              refine ⟨D2, _, n, rfl, d3, _, rfl, q, ys, rfl, .inr (SqT.of (s3 _ _ hq2)), rfl, ?_⟩
              show Q (.bl (decide (V.int n = V.int ys.length))) H3
              have e : decide (V.int n = V.int ys.length) = decide (m.map portB).Nodup := by
                by_cases cn : n = ys.length
                · rw [decide_eq_true (show V.int n = V.int ys.length by rw [cn]), decide_eq_true (nn.mp cn)]
                · rw [decide_eq_false (fun z => cn (by have := V.int.inj z; omega)), decide_eq_false (fun z => cn (nn.mpr z))]
              rw [e]
              exact k H3 (s12.trans s3)
    · rw [decide_eq_false (fun z => c (by have := V.int.inj z; omega))]
      have e1 : waitB (.tup l) = false := by
        show ((l.length == 2) && _) = _
        rw [← hl, beq_eq_false_iff_ne.mpr c, Bool.false_and]
      rw [e1] at k
      exact iteT (k H (Same.refl H))
end
end Oh
namespace Oh
open PySem PySem.Spec PyProof.Rows L2 PpSet
def blocksB (d : DT) : List DT :=
  if headB d = "if" then [argB d 2, argB d 3] else if headB d = "repeat" then [argB d 1] else if headB d = "open" then listB (argB d 1) else if headB d = "wait" then (listB (argB d 1)).map fun r => argB r 2 else []
/-- the list of the blocks -/
def spBlocks (K : PySem.W.Frag) : Sp := fun vs H Q _ => ∃ v d, vs = [v] ∧ Rp K H v d ∧ stmtB d = true ∧ ∀ p H' ys, Same H H' → H p = none → H' p = some (.lst ys) → RpAll K H' ys (blocksB d) → Q (.ref p) H'
theorem stmt_inv {d : DT} (h : stmtB d = true) : ∃ g l, kindB (headB d) = some g ∧ g d = true ∧ d = .tup (.str (headB d) :: l) := by
  unfold stmtB at h
  cases e : kindB (headB d) with
  | none => rw [e] at h; cases h
  | some g =>
    rw [e] at h
    have ne : headB d ≠ "" := fun z => by
      rw [z] at e
      cases e
    obtain ⟨l, el⟩ := head_inv ne
    exact ⟨g, l, rfl, h, el⟩
theorem RpAll.snoc {K : PySem.W.Frag} {H : Hp} : ∀ {vs : List V} {ds : List DT} {v : V} {d : DT}, RpAll K H vs ds → Rp K H v d → RpAll K H (vs ++ [v]) (ds ++ [d])
  | _, _, _, _, .nil, r => .cons r .nil
  | _, _, _, _, .cons h t, r => .cons h (t.snoc r)
theorem len_of {d : DT} {l : List DT} (e : d = .tup l) : lenB d = l.length := by rw [e]; rfl
section
variable {P : Program} {w : World} {K : PySem.W.Frag} {mg : Str → Option Value} {base : Heap} {kw pk ck : Addr}
theorem if_len {d : DT} (h : stmtB d = true) (e : headB d = "if") : lenB d = 4 ∧ blockB (argB d 2) = true ∧ blockB (argB d 3) = true ∧ exprB 4 (argB d 1) = true := by
  obtain ⟨g, l, k, z, _⟩ := stmt_inv h
  rw [e] at k
  obtain rfl := Option.some.inj (show some ifB = some g from k)
  obtain ⟨h1, z⟩ := Bool.and_eq_true_iff.mp z
  obtain ⟨h2, z⟩ := Bool.and_eq_true_iff.mp z
  obtain ⟨h3, h4⟩ := Bool.and_eq_true_iff.mp z
  exact ⟨beq_iff_eq.mp h1, h3, h4, h2⟩
theorem repeat_len {d : DT} (h : stmtB d = true) (e : headB d = "repeat") : lenB d = 2 ∧ blockB (argB d 1) = true := by
  obtain ⟨g, l, k, z, _⟩ := stmt_inv h
  rw [e] at k
  obtain rfl := Option.some.inj (show some repeatB = some g from k)
  obtain ⟨h1, z⟩ := Bool.and_eq_true_iff.mp z
  exact ⟨beq_iff_eq.mp h1, z⟩
theorem open_len {d : DT} (h : stmtB d = true) (e : headB d = "open") : lenB d = 2 ∧ choiceB (argB d 1) = true ∧ ∀ b ∈ listB (argB d 1), blockB b = true := by
  obtain ⟨g, l, k, z, _⟩ := stmt_inv h
  rw [e] at k
  obtain rfl := Option.some.inj (show some openB = some g from k)
  obtain ⟨h1, z⟩ := Bool.and_eq_true_iff.mp z
  obtain ⟨h2, h3⟩ := Bool.and_eq_true_iff.mp z
  exact ⟨beq_iff_eq.mp h1, h2, fun b mb => List.all_eq_true.mp h3 _ (List.mem_map_of_mem mb)⟩
theorem wait_len {d : DT} (h : stmtB d = true) (e : headB d = "wait") : lenB d = 2 ∧ choiceB (argB d 1) = true ∧ (∀ r ∈ listB (argB d 1), rowB r = true) ∧ ((listB (argB d 1)).map portB).Nodup := by
  obtain ⟨g, l, k, z, _⟩ := stmt_inv h
  rw [e] at k
  obtain rfl := Option.some.inj (show some waitB = some g from k)
  obtain ⟨h1, z⟩ := Bool.and_eq_true_iff.mp z
  obtain ⟨h2, z⟩ := Bool.and_eq_true_iff.mp z
  obtain ⟨h3, h4⟩ := Bool.and_eq_true_iff.mp z
  exact ⟨beq_iff_eq.mp h1, h2, fun b mb => List.all_eq_true.mp h3 _ (List.mem_map_of_mem mb), of_decide_eq_true h4⟩
theorem row_len {r : DT} (h : rowB r = true) : ∃ l, r = .tup l ∧ l.length = 3 := by
  obtain ⟨h1, _⟩ := Bool.and_eq_true_iff.mp h
  cases r with
  | tup l => exact ⟨l, rfl, beq_iff_eq.mp h1⟩
  | _ => cases h1
abbrev nBl : List Str := ["statement", "head", "row"]
theorem ok_blocksD {f : Addr} {fd : FuncData} (F : Fun K "blocks_of" "blocks_of" sBlocksOf f fd) (T : TxtI mg) : FnOk P w K mg base CX0 1 f fd ["statement"] (spBlocks K) := by
  refine F.ok scBlocksOf (fun vs H Q E h => ?_) (fun cdv A outer s H vs Q E hr h => ?_)
  · obtain ⟨v, d, rfl, _⟩ := h
    rfl
  · obtain ⟨v, d, rfl, r, hs, k⟩ := h
    obtain ⟨g, l, hk, hg, el⟩ := stmt_inv hs
    obtain ⟨p, xs, rfl, hp, ra⟩ := (el ▸ r : Rp K H v (.tup (.str (headB d) :: l))).tup_inv
    have hl := ra.len
    have ll := len_of el
    obtain ⟨v0, x0, r0⟩ := ra.get (i := 0) rfl
    cases r0
    refine ⟨_, pss_cons (ps_set (i := 1) scBlocksOf.nd rfl (Or.inl rfl) (pe_ix ix_tup (pv 0) pe_int (fun _ _ => rfl)))
      (pss_cons (ps_if (pt_cmpR op_eq (pv 1) pe_str (nomark _)) (pss_one (ps_ret (pe_lst (pa_cons (pe_ix ix_tup (pv 0) pe_int (fun _ _ => rfl)) (pa_cons (pe_ix ix_tup (pv 0) pe_int (fun _ _ => rfl)) pa_nil))))) pss_nil)
      (pss_cons (ps_if (pt_cmpR op_eq (pv 1) pe_str (nomark _)) (pss_one (ps_ret (pe_lst (pa_cons (pe_ix ix_tup (pv 0) pe_int (fun _ _ => rfl)) pa_nil)))) pss_nil)
      (pss_cons (ps_if (pt_cmpR op_eq (pv 1) pe_str (nomark _)) (pss_one (ps_ret (pe_callTy call_list_of (by rfl) T.list bb_list (pa_cons (pe_ix ix_tup (pv 0) pe_int (fun _ _ => rfl)) pa_nil)))) pss_nil)
      (pss_cons (ps_if (pt_cmpR op_eq (pv 1) pe_str (nomark _)) (pss_one (ps_ret
          (pe_lc (own := [("row", 2)]) (g := gName 2) (tt := tYes) (te := tOp (rIxT K) (tVar 2) (tC (.int 2))) rfl scBlocksOf.nd (pi_tup (pe_ix ix_tup (pv 0) pe_int (fun _ _ => rfl))) (blkOk_by (N := nBl) (sc := defScope sBlocksOf) (by decide +kernel)) (fun _ _ _ _ _ => pg_name (i := 2) scBlocksOf.nd rfl (Or.inl rfl)) (fun _ _ _ _ _ => pts_nil)
            (fun _ _ _ _ _ => pe_ix ix_tup (pv 2) pe_int (fun _ _ => rfl))))) pss_nil)
      (pss_one (ps_ret (pe_lst pa_nil))))))), ?_⟩
    refine ⟨_, rfl, p, _, _, _, rfl, rfl, SqT.of hp, at_of (j := 0) rfl x0, ?_⟩
    have ge : ∀ {a b : Str}, a ≠ b → ¬ decide (V.str a = V.str b) = true := fun h z => h (V.str.inj (of_decide_eq_true z))
    refine ⟨_, rfl, rfl, _, rfl, ?_⟩
    by_cases c1 : headB d = "if"
    · refine ite2 (fun _ => ?_) (fun z => absurd (decide_eq_true (by rw [c1])) z)
      have hb : blocksB d = [argB d 2, argB d 3] := by unfold blocksB; rw [if_pos c1]
      obtain ⟨z1, _⟩ := if_len hs c1
      rw [hb] at k
      have ra' : RpAll K H xs (.str (headB d) :: l) := ra
      obtain ⟨v2, x2, r2⟩ := arg_at (i := 2) ra' (by rw [← ll, z1]; decide)
      obtain ⟨v3, x3, r3⟩ := arg_at (i := 3) ra' (by rw [← ll, z1]; decide)
      rw [← el] at r2 r3
      refine ⟨_, rfl, p, _, _, _, rfl, rfl, SqT.of hp, at_of (j := 2) rfl x2, _, rfl, p, _, _, _, rfl, rfl, SqT.of hp, at_of (j := 3) rfl x3, (by show 2 ≤ sizeLine; decide), fun q nq => ?_⟩
      exact k q _ _ (Same.new nq) nq upd_same (.cons (r2.keep (Same.new nq)) (.cons (r3.keep (Same.new nq)) .nil))
    refine ite2 (fun z => absurd z (ge c1)) fun _ => ?_
    refine ⟨_, rfl, rfl, _, rfl, ?_⟩
    by_cases c2 : headB d = "repeat"
    · refine ite2 (fun _ => ?_) (fun z => absurd (decide_eq_true (by rw [c2])) z)
      have hb : blocksB d = [argB d 1] := by unfold blocksB; rw [if_neg c1, if_pos c2]
      obtain ⟨z1, _⟩ := repeat_len hs c2
      rw [hb] at k
      obtain ⟨v1, x1, r1⟩ := arg_at (i := 1) ra (by rw [← ll, z1]; decide)
      rw [← el] at r1
      refine ⟨_, rfl, p, _, _, _, rfl, rfl, SqT.of hp, at_of (j := 1) rfl x1, (by show 1 ≤ sizeLine; decide), fun q nq => ?_⟩
      exact k q _ _ (Same.new nq) nq upd_same (.cons (r1.keep (Same.new nq)) .nil)
    refine ite2 (fun z => absurd z (ge c2)) fun _ => ?_
    refine ⟨_, rfl, rfl, _, rfl, ?_⟩
    by_cases c3 : headB d = "open"
    · refine ite2 (fun _ => ?_) (fun z => absurd (decide_eq_true (by rw [c3])) z)
      have hb : blocksB d = listB (argB d 1) := by unfold blocksB; rw [if_neg c1, if_neg c2, if_pos c3]
      obtain ⟨z1, z2, _⟩ := open_len hs c3
      rw [hb] at k
      obtain ⟨v1, x1, r1⟩ := arg_at (i := 1) ra (by rw [← ll, z1]; decide)
      rw [← el] at r1
      obtain ⟨m, em, _⟩ := choice_inv z2
      rw [em] at r1 k
      obtain ⟨q1, ys, rfl, hq1, rm⟩ := r1.tup_inv
      refine ⟨_, rfl, p, _, _, _, rfl, rfl, SqT.of hp, at_of (j := 1) rfl x1, q1, ys, rfl, .inr (SqT.of hq1), fun q nq => ?_⟩
      exact k q _ _ (Same.new nq) nq upd_same (rm.keep (Same.new nq))
    refine ite2 (fun z => absurd z (ge c3)) fun _ => ?_
    refine ⟨_, rfl, rfl, _, rfl, ?_⟩
    by_cases c4 : headB d = "wait"
    · refine ite2 (fun _ => ?_) (fun z => absurd (decide_eq_true (by rw [c4])) z)
      have hb : blocksB d = (listB (argB d 1)).map fun r => argB r 2 := by unfold blocksB; rw [if_neg c1, if_neg c2, if_neg c3, if_pos c4]
      obtain ⟨z1, z2, z3, _⟩ := wait_len hs c4
      rw [hb] at k
      obtain ⟨v1, x1, r1⟩ := arg_at (i := 1) ra (by rw [← ll, z1]; decide)
      rw [← el] at r1
      obtain ⟨m, em, lm⟩ := choice_inv z2
      rw [em] at r1 k z3
      obtain ⟨q1, ys, rfl, hq1, rm⟩ := r1.tup_inv
      refine ⟨_, rfl, p, _, _, _, rfl, rfl, SqT.of hp, at_of (j := 1) rfl x1, q1, rfl, ⟨_, SqT.of hq1⟩, fun D nD => lc_it (walk_tup (xs := ys)) (fun i H' => Same H H' ∧ ∃ acc, H' D = some (.lst acc) ∧ acc.length = i ∧ RpAll K H acc ((m.take i).map fun r => argB r 2)) ⟨Same.new nD, [], upd_same, rfl, .nil⟩ (fun i H' _ z => SqT.of (z.1 _ _ hq1)) ?_ ?_⟩
      · rintro i x Ha Hb hi ⟨sa, acc, da, la, raa⟩ ⟨e, ex⟩
        subst e
        have li : i < m.length := by rw [← rm.len]; exact hi
        obtain ⟨vi, ev, rv⟩ := rm.get (i := i) (d := m[i]) (List.getElem?_eq_getElem li)
        obtain rfl := Option.some.inj (ev.symm.trans ex)
        obtain ⟨lr, er, l3⟩ := row_len (z3 _ (List.getElem_mem li))
        have rv' := rv
        rw [er] at rv'
        obtain ⟨pr, xr, rfl, hpr, rr⟩ := rv'.tup_inv
        obtain ⟨vz, evz, rz⟩ := arg_at (i := 2) rr (by omega)
        rw [← er] at rz
        have tk : (m.take (i + 1)).map (fun r => argB r 2) = (m.take i).map (fun r => argB r 2) ++ [argB m[i] 2] := by rw [List.take_add_one, List.getElem?_eq_getElem li, List.map_append]; rfl
        refine ⟨rfl, _, rfl, pr, _, _, _, rfl, rfl, SqT.of (sa _ _ hpr), at_of (j := 2) rfl evz, acc, da, ?_, fun b o e => ?_, acc ++ [vz], upd_same, by rw [List.length_append, la]; rfl, ?_⟩
        · rw [la]
          exact Nat.lt_of_lt_of_le li (Nat.le_trans lm (by decide))
        · rw [upd_ne (ne_of_none e nD)]
          exact sa _ _ e
        · rw [tk]
          exact raa.snoc rz
      · rintro H1 ⟨s1, acc, d1, la, raa⟩
        rw [show m.take ys.length = m by rw [rm.len, List.take_length]] at raa
        exact k D H1 acc s1 nD d1 (raa.keep s1)
    refine ite2 (fun z => absurd z (ge c4)) fun _ => ?_
    have hb : blocksB d = [] := by unfold blocksB; rw [if_neg c1, if_neg c2, if_neg c3, if_neg c4]
    rw [hb] at k
    exact ⟨by decide, fun q nq => k q _ _ (Same.new nq) nq upd_same .nil⟩
end
end Oh
namespace Oh
open PySem PySem.Spec PyProof.Rows L2 PpSet
abbrev sQuiet : Stmt := top 36
abbrev sQuietOf : Stmt := top 37
def soundB (n : Nat) (d : DT) : Bool := stmtB d && (decide (n < 12) || (blocksB d).length == 0)
def spSoundD (K : PySem.W.Frag) : Sp := fun vs H Q _ => ∃ v d, ∃ n : Nat, vs = [v, .int (n : Int)] ∧ Rp K H v d ∧ ∀ H', Same H H' → Q (.bl (soundB n d)) H'
section
variable {P : Program} {w : World} {K : PySem.W.Frag} {mg : Str → Option Value} {base : Heap} {kw pk ck : Addr}
theorem ok_isSoundD {f fS fB : Addr} {fd fdS fdB : FuncData} (F : Fun K "_is_sound" "_is_sound" sIsSound f fd) (T : TxtP mg)
    (GS : FnOk P w K mg base CX0 9 fS fdS ["value"] (spB K stmtB)) (kS : PySem.W.keepIn K (.ref fS) = true) (bS : Binds K fdS ["value"] []) (mS : mg "is_statement" = some (.ref fS))
    (GB : FnOk P w K mg base CX0 1 fB fdB ["statement"] (spBlocks K)) (kB : PySem.W.keepIn K (.ref fB) = true) (bB : Binds K fdB ["statement"] []) (mB : mg "blocks_of" = some (.ref fB)) :
    FnOk P w K mg base CX0 10 f fd ["item", "depth"] (spSoundD K) := by
  refine F.ok scIsSound (fun vs H Q E h => ?_) (fun cdv A outer s H vs Q E hr h => ?_)
  · obtain ⟨v, d, n, rfl, _⟩ := h
    rfl
  · obtain ⟨v, d, n, rfl, r, k⟩ := h
    have hr1 : Room 1 _ := hr.mono (by decide)
    obtain ⟨t, md⟩ := T.deepest
    refine ⟨_, pss_one (ps_ret (pe_and (pe_call GS hr (by rfl) mS kS bS .nil pass0 (pa_cons (pv 0) pa_nil)) (pe_one (pe_or (pe_cmpR op_lt (pv 1) (pe_glob (v := .int 12) (by rfl) md ⟨t, rfl⟩) (nomark _))
      (pe_one (pe_cmpR op_eq (pe_callB call_len_seq (by rfl) T.len boot_len (pa_cons (pe_call GB hr1 (by rfl) mB kB bB .nil pass0 (pa_cons (pv 0) pa_nil)) pa_nil)) pe_int (nomark _))))))), ?_⟩
    refine ⟨_, rfl, v, d, rfl, r, fun H1 s1 => ⟨_, rfl, ?_⟩⟩
    cases hb : stmtB d with
    | false =>
      have e : soundB n d = false := by unfold soundB; rw [hb]; rfl
      rw [e] at k
      exact iteF (k H1 s1)
    | true =>
      refine iteT ⟨_, rfl, _, _, rfl, rfl, _, rfl, ?_⟩
      by_cases c : n < 12
      · have e : soundB n d = true := by unfold soundB; rw [hb, decide_eq_true c]; rfl
        rw [e] at k
        refine ite2 (fun _ => k H1 s1) (fun z => absurd (decide_eq_true (show (n : Int) < 12 by omega)) z)
      · refine ite2 (fun z => absurd (of_decide_eq_true z) (by omega)) fun _ => ?_
        refine ⟨_, rfl, v, d, rfl, r.keep s1, hb, fun q H2 ys s2 nq hq ra => ⟨q, ys, rfl, .inl (SqL.of hq), rfl, ?_⟩⟩
        show Q (.bl (decide (V.int ys.length = V.int 0))) H2
        have e : decide (V.int ys.length = V.int 0) = soundB n d := by
          unfold soundB
          rw [hb, decide_eq_false c, Bool.true_and, Bool.false_or, ← ra.len]
          by_cases c2 : ys.length = 0
          · rw [c2]
            rfl
          · rw [beq_eq_false_iff_ne.mpr c2]
            exact decide_eq_false fun z => c2 (by have := V.int.inj z; omega)
        rw [e]
        exact k H2 (s1.trans s2)
end
end Oh
namespace Oh
open PySem PySem.Spec PyProof.Rows L2 PpSet
/-- the quiet ways of one item: whether one passes, whether one leaves; rec: those of a block within -/
def quietOf (rec : DT → Bool × Bool) (n : Nat) (d : DT) : Bool × Bool :=
  if soundB n d = false then (false, false) else if headB d = "set" then (true, false) else if headB d = "leave" then (false, true) else if headB d = "repeat" then ((rec (argB d 1)).2, false)
  else if headB d = "if" ∨ headB d = "open" then ((((blocksB d).map rec).map (·.1)).any id, (((blocksB d).map rec).map (·.2)).any id) else (false, false)
def quietL (one : DT → Bool × Bool) : List DT → Bool → Bool × Bool
  | [], lv => (true, lv)
  | d :: r, lv => if (one d).1 = true then quietL one r (lv || (one d).2) else (false, lv || (one d).2)
/-- f levels may come below; the depth is 12 - f -/
def quietR : Nat → DT → Bool × Bool
  | 0 => fun _ => (false, false)
  | f + 1 => fun b => quietL (quietOf (quietR f) (12 - f)) (listB b) false
abbrev quietB (f : Nat) : DT → Bool × Bool := quietR (f + 1)
/-- a pair of truth values, new -/
def Pair (H H' : Hp) (p : Addr) (a : Bool × Bool) : Prop := Same H H' ∧ H p = none ∧ H' p = some (.tup [.bl a.1, .bl a.2])
def spQuiet (K : PySem.W.Frag) (f : Nat) : Sp := fun vs H Q _ => ∃ v d, ∃ n : Nat, vs = [v, .int (n : Int)] ∧ n + f = 12 ∧ Rp K H v d ∧ blockB d = true ∧ ∀ p H', Pair H H' p (quietB f d) → Q (.ref p) H'
def spQuietP (K : PySem.W.Frag) : Nat → Sp
  | 0 => fun _ _ _ _ => False
  | f + 1 => spQuiet K f
def spQuietOf (K : PySem.W.Frag) (f : Nat) : Sp := fun vs H Q _ => ∃ v d, ∃ n : Nat, vs = [v, .int (n : Int)] ∧ n + f = 12 ∧ Rp K H v d ∧ ∀ p H', Pair H H' p (quietOf (quietR f) n d) → Q (.ref p) H'
theorem block_inv {d : DT} (h : blockB d = true) : ∃ l, d = .tup l ∧ l.length ≤ 12 := by
  cases d with
  | tup l => exact ⟨l, rfl, of_decide_eq_true h⟩
  | _ => cases h
section
variable {P : Program} {w : World} {K : PySem.W.Frag} {mg : Str → Option Value} {base : Heap} {kw pk ck : Addr}
abbrev nQw : List Str := ["block", "depth", "leaves", "item", "passes", "leaves_here"]
theorem scQuiet : FnScope nQw ["block", "depth"] (defScope sQuiet) := ⟨rfl, rfl, rfl, by decide +kernel, rfl, by decide +kernel, by decide +kernel⟩
theorem quiet_step {f : Nat} {fQ fO : Addr} {fdQ fdO : FuncData} (F : Fun K "_quiet_ways" "_quiet_ways" sQuiet fQ fdQ)
    (GO : FnOk P w K mg base CX0 (11 + 2 * f) fO fdO ["item", "depth"] (spQuietOf K f)) (kO : PySem.W.keepIn K (.ref fO) = true) (bO : Binds K fdO ["item", "depth"] []) (mO : mg "_quiet_ways_of" = some (.ref fO)) :
    FnOk P w K mg base CX0 (11 + 2 * f + 1) fQ fdQ ["block", "depth"] (spQuiet K f) := by
  refine F.ok scQuiet (fun vs H Q E h => ?_) (fun cdv A outer s H vs Q E hr h => ?_)
  · obtain ⟨v, d, n, rfl, _⟩ := h
    rfl
  · obtain ⟨v, d, n, rfl, hn, r, hb, k⟩ := h
    obtain ⟨l, rfl, ll⟩ := block_inv hb
    obtain ⟨p, xs, rfl, hp, ra⟩ := r.tup_inv
    have hl := ra.len
    have en : 12 - f = n := by omega
    refine ⟨_, pss_cons (ps_set (i := 2) scQuiet.nd rfl (Or.inl rfl) pe_bl)
      (pss_cons (ps_for PassesOwn.never rfl (pi_tup (pv 0)) (pg_name (i := 3) scQuiet.nd rfl (Or.inl rfl))
        (pss_cons (ps_asg (pe_call GO hr (by rfl) mO kO bO .nil pass0 (pa_cons (pv 3) (pa_cons (pv 1) pa_nil))) (pg_tup rfl (pgs_cons (pg_name (i := 4) scQuiet.nd rfl (Or.inl rfl)) (pgs_cons (pg_name (i := 5) scQuiet.nd rfl (Or.inl rfl)) pgs_nil))))
        (pss_cons (ps_set (i := 2) scQuiet.nd rfl (Or.inl rfl) (pe_or (pv 2) (pe_one (pv 5))))
        (pss_one (ps_if (pt_not (pt_val (pv 4))) (pss_one (ps_ret (pe_tup (pa_cons pe_bl (pa_cons (pv 2) pa_nil))))) pss_nil)))))
      (pss_one (ps_ret (pe_tup (pa_cons pe_bl (pa_cons (pv 2) pa_nil)))))), ?_⟩
    -- what is left: the rest of the block, with what leaves so far
    have fin : ∀ (lv : Bool) (b : Bool) (H1 : Hp), Same H H1 → quietB f (.tup l) = (b, lv) → ∀ q, H1 q = none → Q (.ref q) (upd H1 q (.tup [.bl b, .bl lv])) := fun lv b H1 s1 e q nq => by
      refine k q _ ⟨s1.trans (Same.new nq), s1.free nq, ?_⟩
      rw [upd_same, e]
    refine ⟨_, rfl, p, rfl, ⟨_, SqT.of hp⟩, for_it (walk_tup (xs := xs)) (fun i σ H' => ∃ (lv : Bool) (y z t : Option V), σ = [some (.ref p), some (.int (n : Int)), some (.bl lv), y, z, t] ∧ Same H H' ∧ quietB f (.tup l) = quietL (quietOf (quietR f) n) (l.drop i) lv)
      ⟨false, _, _, _, rfl, Same.refl H, by show quietL (quietOf (quietR f) (12 - f)) l false = _; rw [en]; rfl⟩ ?_ ?_ ?_⟩
    · rintro i σ H' _ ⟨lv, y, z, t, _, s', _⟩
      exact SqT.of (s' _ _ hp)
    · rintro i x σ H1 H2 hi ⟨lv, y, z, t, rfl, s1, e⟩ ⟨e2, ex⟩
      subst e2
      have li : i < l.length := by rw [← hl]; exact hi
      obtain ⟨vi, ev, rv⟩ := ra.get (i := i) (d := l[i]) (List.getElem?_eq_getElem li)
      obtain rfl := Option.some.inj (ev.symm.trans ex)
      have dr : l.drop i = l[i] :: l.drop (i + 1) := List.drop_eq_getElem_cons li
      rw [dr] at e
      refine ⟨_, rfl, _, rfl, vi, l[i], n, rfl, hn, rv.keep s1, fun q H3 ⟨s3, nq, hq⟩ => ⟨q, _, rfl, SqT.of hq, rfl, _, _, rfl, _, _, rfl, rfl, ?_⟩⟩
      generalize hqw : quietOf (quietR f) n l[i] = qw at hq e ⊢
      obtain ⟨pa, lh⟩ := qw
      have s13 := s1.trans s3
      have e' : quietB f (.tup l) = if pa = true then quietL (quietOf (quietR f) n) (l.drop (i + 1)) (lv || lh) else (false, lv || lh) := by
        rw [e]
        show (if (quietOf (quietR f) n l[i]).1 = true then quietL _ _ (lv || (quietOf (quietR f) n l[i]).2) else (false, lv || (quietOf (quietR f) n l[i]).2)) = _
        rw [hqw]
      cases lv with
      | true =>
        refine ⟨_, rfl, _, rfl, iteT ⟨_, rfl, _, rfl, ?_⟩⟩
        cases pa with
        | true => exact iteF ⟨true, _, _, _, rfl, s13, e'⟩
        | false => exact iteT ⟨_, rfl, (by show 2 ≤ sizeLine; decide), fun q2 nq2 => fin true false H3 s13 e' q2 nq2⟩
      | false =>
        refine ⟨_, rfl, _, rfl, iteF ⟨_, rfl, ⟨_, rfl, _, rfl, ?_⟩⟩⟩
        cases pa with
        | true => exact iteF ⟨lh, _, _, _, rfl, s13, e'⟩
        | false => exact iteT ⟨_, rfl, (by show 2 ≤ sizeLine; decide), fun q2 nq2 => fin lh false H3 s13 e' q2 nq2⟩
    · rintro σ H1 ⟨lv, y, z, t, rfl, s1, e⟩
      have dr : l.drop xs.length = [] := by rw [hl]; exact List.drop_length
      rw [dr] at e
      exact ⟨_, rfl, (by show 2 ≤ sizeLine; decide), fun q nq => fin lv true H1 s1 e q nq⟩
end
end Oh
namespace Oh
open PySem PySem.Spec PyProof.Rows L2 PpSet
theorem boot_anyO : bootBuiltins "any" = some (.builtin "any") := by decide +kernel
/-- the blocks of a statement are blocks, and few -/
theorem blocks_ok {d : DT} (h : stmtB d = true) : (∀ b ∈ blocksB d, blockB b = true) ∧ (blocksB d).length ≤ 4 := by
  unfold blocksB
  split
  · rename_i e
    obtain ⟨_, h2, h3, _⟩ := if_len h e
    refine ⟨fun b mb => ?_, (by show 2 ≤ 4; decide)⟩
    rcases List.mem_cons.mp mb with rfl | mb
    · exact h2
    · rcases List.mem_cons.mp mb with rfl | mb
      · exact h3
      · cases mb
  split
  · rename_i e
    obtain ⟨_, h2⟩ := repeat_len h e
    refine ⟨fun b mb => ?_, (by show 1 ≤ 4; decide)⟩
    rcases List.mem_cons.mp mb with rfl | mb
    · exact h2
    · cases mb
  split
  · rename_i e
    obtain ⟨_, h2, h3⟩ := open_len h e
    obtain ⟨m, em, lm⟩ := choice_inv h2
    exact ⟨h3, by rw [em]; exact lm⟩
  split
  · rename_i e
    obtain ⟨_, h2, h3, _⟩ := wait_len h e
    obtain ⟨m, em, lm⟩ := choice_inv h2
    refine ⟨fun b mb => ?_, by rw [em, List.length_map]; exact lm⟩
    obtain ⟨r, mr, rfl⟩ := List.mem_map.mp mb
    have z := h3 r mr
    unfold rowB at z
    exact (Bool.and_eq_true_iff.mp (Bool.and_eq_true_iff.mp (Bool.and_eq_true_iff.mp z).2).2).2
  · exact ⟨fun b mb => absurd mb (by simp), by simp⟩
theorem sound_room {n : Nat} {d : DT} (h : soundB n d = true) (ne : (blocksB d).length ≠ 0) : n < 12 := by
  have h2 := (Bool.and_eq_true_iff.mp (show (stmtB d && (decide (n < 12) || (blocksB d).length == 0)) = true from h)).2
  have h3 : n < 12 ∨ (blocksB d).length = 0 := by simpa using h2
  exact h3.elim id fun z => absurd z ne
theorem inner_some {d : DT} (h : stmtB d = true) (c : headB d = "if" ∨ headB d = "open") : (blocksB d).length ≠ 0 := by
  unfold blocksB
  rcases c with c | c
  · rw [if_pos c]
    simp
  · rw [if_neg (by rw [c]; decide), if_neg (by rw [c]; decide), if_pos c]
    obtain ⟨_, h2, _⟩ := open_len h c
    cases e : argB d 1 with
    | tup m =>
      rw [e] at h2
      have h2 : (decide (1 ≤ m.length) && decide (m.length ≤ 4)) = true := h2
      have h3 := of_decide_eq_true (Bool.and_eq_true_iff.mp h2).1
      show m.length ≠ 0
      omega
    | _ => rw [e] at h2; cases h2
/-- the list of pairs -/
def Prs2 (H : Hp) (vs : List V) (ws : List (Bool × Bool)) : Prop := Paired (fun v (a : Bool × Bool) => ∃ p, v = V.ref p ∧ H p = some (.tup [.bl a.1, .bl a.2])) vs ws
theorem Prs2.keep {H H' : Hp} (s : Same H H') : ∀ {vs : List V} {ws : List (Bool × Bool)}, Prs2 H vs ws → Prs2 H' vs ws
  | _, _, .nil => .nil
  | _, _, .cons ⟨p, e, h⟩ t => .cons ⟨p, e, s _ _ h⟩ (Prs2.keep s t)
theorem Prs2.snoc {H : Hp} : ∀ {vs : List V} {ws : List (Bool × Bool)} {v : V} {a : Bool × Bool}, Prs2 H vs ws → (∃ p, v = V.ref p ∧ H p = some (.tup [.bl a.1, .bl a.2])) → Prs2 H (vs ++ [v]) (ws ++ [a])
  | _, _, _, _, .nil, h => .cons h .nil
  | _, _, _, _, .cons h t, z => .cons h (Prs2.snoc t z)
theorem Prs2.get {H : Hp} : ∀ {vs : List V} {ws : List (Bool × Bool)} {i : Nat} {v : V}, Prs2 H vs ws → vs[i]? = some v → ∃ a p, ws[i]? = some a ∧ v = V.ref p ∧ H p = some (.tup [.bl a.1, .bl a.2])
  | _, _, i, v, .nil, h => by simp at h
  | _, _, 0, v, .cons ⟨p, e, hp⟩ _, h => by
    obtain rfl := Option.some.inj h
    exact ⟨_, p, rfl, e, hp⟩
  | _, _, i + 1, v, .cons _ t, h => Prs2.get (i := i) t h
theorem Prs2.upd {H : Hp} {D : Addr} {xs : List V} {o : HO} (hD : H D = some (.lst xs)) : ∀ {vs : List V} {ws : List (Bool × Bool)}, Prs2 H vs ws → Prs2 (upd H D o) vs ws
  | _, _, .nil => .nil
  | _, _, .cons ⟨p, e, h⟩ t => .cons ⟨p, e, by
    have ne : p ≠ D := fun z => by
      subst z
      cases hD.symm.trans h
    rw [upd_ne ne]
    exact h⟩ (Prs2.upd hD t)
theorem Prs2.len {H : Hp} {vs : List V} {ws : List (Bool × Bool)} (h : Prs2 H vs ws) : vs.length = ws.length := Paired.length h
section
variable {P : Program} {w : World} {K : PySem.W.Frag} {mg : Str → Option Value} {base : Heap} {kw pk ck : Addr}
abbrev nQo : List Str := ["item", "depth", "head", "ways", "inner", "passes", "_", "leaves"]
theorem scQuietOf : FnScope nQo ["item", "depth"] (defScope sQuietOf) := ⟨rfl, rfl, rfl, by decide +kernel, rfl, by decide +kernel, by decide +kernel⟩
theorem of_step {f : Nat} {fQ fO fS fB : Addr} {fdQ fdO fdS fdB : FuncData} (F : Fun K "_quiet_ways_of" "_quiet_ways_of" sQuietOf fO fdO) (mAny : mg "any" = none)
    (GS : FnOk P w K mg base CX0 10 fS fdS ["item", "depth"] (spSoundD K)) (kS : PySem.W.keepIn K (.ref fS) = true) (bS : Binds K fdS ["item", "depth"] []) (mS : mg "_is_sound" = some (.ref fS))
    (GB : FnOk P w K mg base CX0 1 fB fdB ["statement"] (spBlocks K)) (kB : PySem.W.keepIn K (.ref fB) = true) (bB : Binds K fdB ["statement"] []) (mB : mg "blocks_of" = some (.ref fB))
    (GQ : FnOk P w K mg base CX0 (10 + 2 * f) fQ fdQ ["block", "depth"] (spQuietP K f)) (kQ : PySem.W.keepIn K (.ref fQ) = true) (bQ : Binds K fdQ ["block", "depth"] []) (mQ : mg "_quiet_ways" = some (.ref fQ)) :
    FnOk P w K mg base CX0 (10 + 2 * f + 1) fO fdO ["item", "depth"] (spQuietOf K f) := by
  refine F.ok scQuietOf (fun vs H Q E h => ?_) (fun cdv A outer s H vs Q E hr h => ?_)
  · obtain ⟨v, d, n, rfl, _⟩ := h
    rfl
  · obtain ⟨v, d, n, rfl, hn, r, k⟩ := h
    have hr1 : Room 1 _ := hr.mono (by omega)
    have hr10 : Room 10 _ := hr.mono (by omega)
    refine ⟨_, pss_cons (ps_if (pt_not (pt_val (pe_call GS hr10 (by rfl) mS kS bS .nil pass0 (pa_cons (pv 0) (pa_cons (pv 1) pa_nil))))) (pss_one (ps_ret (pe_tup (pa_cons pe_bl (pa_cons pe_bl pa_nil))))) pss_nil)
      (pss_cons (ps_set (i := 2) scQuietOf.nd rfl (Or.inl rfl) (pe_ix ix_tup (pv 0) pe_int (fun _ _ => rfl)))
      (pss_cons (ps_if (pt_cmpR op_eq (pv 2) pe_str (nomark _)) (pss_one (ps_ret (pe_tup (pa_cons pe_bl (pa_cons pe_bl pa_nil))))) pss_nil)
      (pss_cons (ps_if (pt_cmpR op_eq (pv 2) pe_str (nomark _)) (pss_one (ps_ret (pe_tup (pa_cons pe_bl (pa_cons pe_bl pa_nil))))) pss_nil)
      (pss_cons (ps_if (pt_cmpR op_eq (pv 2) pe_str (nomark _)) (pss_one (ps_ret (pe_tup (pa_cons (pe_ix ix_tup (pe_call GQ hr (by rfl) mQ kQ bQ .nil pass0 (pa_cons (pe_ix ix_tup (pv 0) pe_int (fun _ _ => rfl)) (pa_cons (pe_op op_add (pv 1) pe_int) pa_nil))) pe_int (fun _ _ => rfl)) (pa_cons pe_bl pa_nil))))) pss_nil)
      (pss_cons (ps_if (pw_or (pt_cmpR op_eq (pv 2) pe_str (nomark _)) (pw_or1 (pt_cmpR op_eq (pv 2) pe_str (nomark _)))).pt
        (pss_cons (ps_setLc (i := 3) (own := [("inner", 4)]) (g := gName 4) (tt := tYes) (te := tCall (spQuietP K f) [] E0 (tCons (tVar 4) (tCons (tOp (rI0 fun i j => .int (i + j)) (tVar 1) (tC (.int 1))) tNil))) rfl scQuietOf.nd rfl rfl (sw_true rfl rfl rfl (by decide +kernel)) (pi_list (pe_call GB hr1 (by rfl) mB kB bB .nil pass0 (pa_cons (pv 0) pa_nil)))
            (blkOk_by (N := nQo) (sc := defScope sQuietOf) (by decide +kernel)) (fun _ _ _ _ _ => pg_name (i := 4) scQuietOf.nd rfl (Or.inl rfl)) (fun _ _ _ _ _ => pts_nil) (fun _ _ _ _ _ => pe_call GQ hr (by rfl) mQ kQ bQ .nil pass0 (pa_cons (pv 4) (pa_cons (pe_op op_add (pv 1) pe_int) pa_nil))))
        (pss_one (ps_ret (pe_tup (pa_cons
          (pe_callB (cr_any rfl) (by rfl) mAny boot_anyO (pa_cons (pe_lc (own := [("passes", 5), ("_", 6)]) (g := gTup K 2 (gCons (gName 5) (gCons (gName 6) gNil))) (tt := tYes) (te := tVar 5) rfl scQuietOf.nd (pi_list (pv 3)) (blkOk_by (N := nQo) (sc := defScope sQuietOf) (by decide +kernel))
            (fun _ _ _ _ _ => pg_tup rfl (pgs_cons (pg_name (i := 5) scQuietOf.nd rfl (Or.inl rfl)) (pgs_cons (pg_name (i := 6) scQuietOf.nd rfl (Or.inl rfl)) pgs_nil))) (fun _ _ _ _ _ => pts_nil) (fun _ _ _ _ _ => pv 5)) pa_nil))
          (pa_cons (pe_callB (cr_any rfl) (by rfl) mAny boot_anyO (pa_cons (pe_lc (own := [("_", 6), ("leaves", 7)]) (g := gTup K 2 (gCons (gName 6) (gCons (gName 7) gNil))) (tt := tYes) (te := tVar 7) rfl scQuietOf.nd (pi_list (pv 3)) (blkOk_by (N := nQo) (sc := defScope sQuietOf) (by decide +kernel))
            (fun _ _ _ _ _ => pg_tup rfl (pgs_cons (pg_name (i := 6) scQuietOf.nd rfl (Or.inl rfl)) (pgs_cons (pg_name (i := 7) scQuietOf.nd rfl (Or.inl rfl)) pgs_nil))) (fun _ _ _ _ _ => pts_nil) (fun _ _ _ _ _ => pv 7)) pa_nil)) pa_nil)))))) pss_nil)
      (pss_one (ps_ret (pe_tup (pa_cons pe_bl (pa_cons pe_bl pa_nil)))))))))), ?_⟩
    have ret : ∀ (a b : Bool) (H1 : Hp), Same H H1 → quietOf (quietR f) n d = (a, b) → (2 ≤ sizeLine ∧ ∀ q, H1 q = none → Q (.ref q) (upd H1 q (.tup [.bl a, .bl b]))) := fun a b H1 s1 e => by
      refine ⟨by decide, fun q nq => k q _ ⟨s1.trans (Same.new nq), s1.free nq, ?_⟩⟩
      rw [upd_same, e]
    have ge : ∀ {a b : Str}, a ≠ b → ¬ decide (V.str a = V.str b) = true := fun h z => h (V.str.inj (of_decide_eq_true z))
    refine ⟨_, rfl, _, rfl, v, d, n, rfl, r, fun H1 s1 => ⟨_, rfl, ?_⟩⟩
    cases hb : soundB n d with
    | false => exact iteT (ret false false H1 s1 (by unfold quietOf; rw [if_pos hb]))
    | true =>
      refine iteF ?_
      have nb : ¬ soundB n d = false := by rw [hb]; decide
      have hs : stmtB d = true := (Bool.and_eq_true_iff.mp (show (stmtB d && (decide (n < 12) || (blocksB d).length == 0)) = true from hb)).1
      obtain ⟨g, l, hk, hg, el⟩ := stmt_inv hs
      obtain ⟨p, xs, rfl, hp, ra⟩ := (el ▸ r : Rp K H v (.tup (.str (headB d) :: l))).tup_inv
      have ll := len_of el
      obtain ⟨v0, x0, r0⟩ := ra.get (i := 0) rfl
      cases r0
      refine ⟨_, rfl, p, _, _, _, rfl, rfl, SqT.of (s1 _ _ hp), at_of (j := 0) rfl x0, ?_⟩
      refine ⟨_, rfl, rfl, _, rfl, ?_⟩
      by_cases c1 : headB d = "set"
      · exact ite2 (fun _ => ret true false H1 s1 (by unfold quietOf; rw [if_neg nb, if_pos c1])) (fun z => absurd (decide_eq_true (by rw [c1])) z)
      refine ite2 (fun z => absurd z (ge c1)) fun _ => ?_
      refine ⟨_, rfl, rfl, _, rfl, ?_⟩
      by_cases c2 : headB d = "leave"
      · exact ite2 (fun _ => ret false true H1 s1 (by unfold quietOf; rw [if_neg nb, if_neg c1, if_pos c2])) (fun z => absurd (decide_eq_true (by rw [c2])) z)
      refine ite2 (fun z => absurd z (ge c2)) fun _ => ?_
      refine ⟨_, rfl, rfl, _, rfl, ?_⟩
      by_cases c3 : headB d = "repeat"
      · refine ite2 (fun _ => ?_) (fun z => absurd (decide_eq_true (by rw [c3])) z)
        obtain ⟨z1, z2⟩ := repeat_len hs c3
        have room : n < 12 := sound_room hb (by unfold blocksB; rw [if_neg (by rw [c3]; decide), if_pos c3]; simp)
        obtain ⟨f', rfl⟩ : ∃ f', f = f' + 1 := ⟨f - 1, by omega⟩
        obtain ⟨v1, x1, r1⟩ := arg_at (i := 1) ra (by rw [← ll, z1]; decide)
        rw [← el] at r1
        refine ⟨_, rfl, p, _, _, _, rfl, rfl, SqT.of (s1 _ _ hp), at_of (j := 1) rfl x1, _, rfl, _, _, rfl, rfl, v1, argB d 1, n + 1, rfl, by omega, r1.keep s1, z2, fun q H2 ⟨s2, nq, hq⟩ => ⟨q, _, _, _, rfl, rfl, SqT.of hq, rfl, ?_⟩⟩
        refine ret _ _ H2 (s1.trans s2) ?_
        unfold quietOf
        rw [if_neg nb, if_neg c1, if_neg c2, if_pos c3]
      refine ite2 (fun z => absurd z (ge c3)) fun _ => ?_
      by_cases c : headB d = "if" ∨ headB d = "open"
      · obtain ⟨bk, b4⟩ := blocks_ok hs
        have room : n < 12 := sound_room hb (inner_some hs c)
        obtain ⟨f', rfl⟩ : ∃ f', f = f' + 1 := ⟨f - 1, by omega⟩
        have eq : quietOf (quietR (f' + 1)) n d = ((((blocksB d).map (quietB f')).map (·.1)).any id, (((blocksB d).map (quietB f')).map (·.2)).any id) := by
          unfold quietOf
          rw [if_neg nb, if_neg c1, if_neg c2, if_neg c3, if_pos c]
        have c' := c
        rcases c with c | c
        refine ⟨_, rfl, rfl, _, rfl, ite2 (fun _ => ?_) (fun z => absurd (decide_eq_true (by rw [c])) z)⟩
        rotate_left
        refine ⟨_, rfl, rfl, _, rfl, ite2 (fun z => absurd z (ge (by rw [c]; decide))) fun _ => ⟨_, rfl, rfl, _, rfl, ite2 (fun _ => ?_) (fun z => absurd (decide_eq_true (by rw [c])) z)⟩⟩
        all_goals
          have rd := r.keep s1
          refine ⟨_, rfl, _, d, rfl, rd, hs, fun q H2 ys s2 nq hq rb => ⟨q, rfl, ⟨_, SqL.of hq⟩, fun D nD => lc_it (walk_list (xs := ys)) (fun i H' => Same H2 H' ∧ ∃ acc, H' D = some (.lst acc) ∧ Prs2 H' acc (((blocksB d).take i).map (quietB f'))) ⟨Same.new nD, [], upd_same, .nil⟩ (fun i H' _ z => SqL.of (z.1 _ _ hq)) ?_ ?_⟩⟩
          · rintro i x Ha Hb hi ⟨sa, acc, da, pa⟩ ⟨e, ex⟩
            subst e
            have li : i < (blocksB d).length := by rw [← rb.len]; exact hi
            obtain ⟨vi, ev, rv⟩ := rb.get (i := i) (d := (blocksB d)[i]) (List.getElem?_eq_getElem li)
            obtain rfl := Option.some.inj (ev.symm.trans ex)
            have tk : ((blocksB d).take (i + 1)).map (quietB f') = ((blocksB d).take i).map (quietB f') ++ [quietB f' (blocksB d)[i]] := by rw [List.take_add_one, List.getElem?_eq_getElem li, List.map_append]; rfl
            refine ⟨rfl, _, rfl, _, rfl, _, _, rfl, rfl, vi, (blocksB d)[i], n + 1, rfl, by omega, rv.keep sa, bk _ (List.getElem_mem li), fun q2 Hc ⟨sc, nq2, hq2⟩ => ⟨acc, sc _ _ da, ?_, fun b o e => ?_, acc ++ [V.ref q2], upd_same, ?_⟩⟩
            · rw [pa.len, List.length_map, List.length_take]
              exact Nat.lt_of_le_of_lt (Nat.min_le_right _ _) (Nat.lt_of_le_of_lt b4 (by decide))
            · rw [upd_ne (ne_of_none e nD)]
              exact sc _ _ (sa _ _ e)
            · rw [tk]
              exact Prs2.upd (sc _ _ da) ((pa.keep sc).snoc ⟨q2, rfl, hq2⟩)
          · rintro H3 ⟨s3, acc, d3, p3⟩
            rw [show (blocksB d).take ys.length = blocksB d by rw [rb.len, List.take_length]] at p3
            have s13 := s1.trans (s2.trans s3)
            have la := p3.len
            have lw : ((blocksB d).map (quietB f')).length ≤ 4 := by rw [List.length_map]; exact b4
            refine ⟨_, rfl, D, rfl, ⟨_, SqL.of d3⟩, fun E1 nE => lc_it (walk_list (xs := acc)) (fun i H' => Same H3 H' ∧ H' E1 = some (.lst (((((blocksB d).map (quietB f')).map (·.1)).take i).map V.bl))) ⟨Same.new nE, upd_same⟩ (fun i H' _ z => SqL.of (z.1 _ _ d3)) ?_ ?_⟩
            · rintro i x Ha Hb hi ⟨sa, da⟩ ⟨e, ex⟩
              subst e
              obtain ⟨a, pp, ea, rfl, hpp⟩ := p3.get ex
              have lc : (((blocksB d).map (quietB f')).map (·.1))[i]? = some a.1 := by rw [List.getElem?_map, ea]; rfl
              refine ⟨pp, _, rfl, SqT.of (sa _ _ hpp), rfl, _, _, rfl, _, _, rfl, rfl, rfl, _, rfl, _, da, ?_, fun b o e => ?_, ?_⟩
              · rw [List.length_map, List.length_take, List.length_map]
                exact Nat.lt_of_le_of_lt (Nat.min_le_right _ _) (Nat.lt_of_le_of_lt lw (by decide))
              · rw [upd_ne (ne_of_none e nE)]
                exact sa _ _ e
              · rw [upd_same, List.take_add_one, lc]
                simp
            · rintro H4 ⟨s4, d4⟩
              rw [List.take_of_length_le (by rw [List.length_map, la]; exact Nat.le_refl _)] at d4
              refine ⟨E1, _, rfl, SqL.of d4, ?_⟩
              have d34 := s4 _ _ d3
              refine ⟨_, rfl, D, rfl, ⟨_, SqL.of d34⟩, fun E2 nE2 => lc_it (walk_list (xs := acc)) (fun i H' => Same H4 H' ∧ H' E2 = some (.lst (((((blocksB d).map (quietB f')).map (·.2)).take i).map V.bl))) ⟨Same.new nE2, upd_same⟩ (fun i H' _ z => SqL.of (z.1 _ _ d34)) ?_ ?_⟩
              · rintro i x Ha Hb hi ⟨sa, da⟩ ⟨e, ex⟩
                subst e
                obtain ⟨a, pp, ea, rfl, hpp⟩ := p3.get ex
                have lc : (((blocksB d).map (quietB f')).map (·.2))[i]? = some a.2 := by rw [List.getElem?_map, ea]; rfl
                refine ⟨pp, _, rfl, SqT.of (sa _ _ (s4 _ _ hpp)), rfl, _, _, rfl, _, _, rfl, rfl, rfl, _, rfl, _, da, ?_, fun b o e => ?_, ?_⟩
                · rw [List.length_map, List.length_take, List.length_map]
                  exact Nat.lt_of_le_of_lt (Nat.min_le_right _ _) (Nat.lt_of_le_of_lt lw (by decide))
                · rw [upd_ne (ne_of_none e nE2)]
                  exact sa _ _ e
                · rw [upd_same, List.take_add_one, lc]
                  simp
              · rintro H5 ⟨s5, d5⟩
                rw [List.take_of_length_le (by rw [List.length_map, la]; exact Nat.le_refl _)] at d5
                exact ⟨E2, _, rfl, SqL.of d5, ret _ _ H5 (s13.trans (s4.trans s5)) eq⟩
      · refine ⟨_, rfl, rfl, _, rfl, ite2 (fun z => absurd z (ge fun y => c (.inl y))) fun _ => ⟨_, rfl, rfl, _, rfl, ite2 (fun z => absurd z (ge fun y => c (.inr y))) fun _ => ?_⟩⟩
        exact ret false false H1 s1 (by unfold quietOf; rw [if_neg nb, if_neg c1, if_neg c2, if_neg c3, if_neg c])
end
end Oh
namespace Oh
open PySem PySem.Spec PyProof.Rows L2 PpSet
/-- f = 12 - n -/
def wrongB (f n : Nat) (inr : Bool) (d : DT) : Bool :=
  if soundB n d = false then true else if headB d = "leave" then !inr else decide (headB d = "repeat") && (quietR f (argB d 1)).1
/-- the first path of a wrong item, ascending -/
def goBlocks (rec : DT → List Nat → Bool → Option (List Nat)) (here : List Nat) (rep : Bool) : List DT → Nat → Option (List Nat)
  | [], _ => none
  | b :: bs, j => match rec b (here ++ [j]) rep with
    | some w => some w
    | none => goBlocks rec here rep bs (j + 1)
def goItems (rec : DT → List Nat → Bool → Option (List Nat)) (f n : Nat) (path : List Nat) (inr : Bool) : List DT → Nat → Option (List Nat)
  | [], _ => none
  | d :: ds, i => if wrongB f n inr d = true then some (path ++ [i]) else match goBlocks rec (path ++ [i]) (inr || decide (headB d = "repeat")) (blocksB d) 0 with
    | some w => some w
    | none => goItems rec f n path inr ds (i + 1)
def firstR : Nat → DT → List Nat → Bool → Option (List Nat)
  | 0 => fun _ _ _ => none
  | f + 1 => fun b path inr => goItems (firstR f) f (12 - f) path inr (listB b) 0
abbrev firstB (f : Nat) : DT → List Nat → Bool → Option (List Nat) := firstR (f + 1)
abbrev pathV (w : List Nat) : List V := w.map fun (n : Nat) => V.int (n : Int)
/-- a path or none -/
def PathOr (H : Hp) (v : V) : Option (List Nat) → Prop
  | none => v = .non
  | some w => ∃ p, v = .ref p ∧ H p = some (.tup (pathV w))
def spWrong (K : PySem.W.Frag) (f : Nat) : Sp := fun vs H Q _ => ∃ v d, ∃ (n : Nat) (inr : Bool), vs = [v, .int (n : Int), .bl inr] ∧ n + f = 12 ∧ Rp K H v d ∧ ∀ H', Same H H' → Q (.bl (wrongB f n inr d)) H'
def spFirstD (K : PySem.W.Frag) (f : Nat) : Sp := fun vs H Q _ => ∃ v d p, ∃ (path : List Nat) (n : Nat) (inr : Bool), vs = [v, .ref p, .int (n : Int), .bl inr] ∧ n + f = 12 ∧ Rp K H v d ∧ blockB d = true ∧ H p = some (.tup (pathV path)) ∧ path.length + 2 * f ≤ 100 ∧
  ∀ v' H', Same H H' → PathOr H' v' (firstB f d path inr) → Q v' H'
def spFirstP (K : PySem.W.Frag) : Nat → Sp
  | 0 => fun _ _ _ _ => False
  | f + 1 => spFirstD K f
section
variable {P : Program} {w : World} {K : PySem.W.Frag} {mg : Str → Option Value} {base : Heap} {kw pk ck : Addr}
theorem ok_quiet {fQ fO fS fB : Addr} {fdQ fdO fdS fdB : FuncData} (FO : Fun K "_quiet_ways_of" "_quiet_ways_of" sQuietOf fO fdO) (FQ : Fun K "_quiet_ways" "_quiet_ways" sQuiet fQ fdQ) (mAny : mg "any" = none)
    (GS : FnOk P w K mg base CX0 10 fS fdS ["item", "depth"] (spSoundD K)) (kS : PySem.W.keepIn K (.ref fS) = true) (bS : Binds K fdS ["item", "depth"] []) (mS : mg "_is_sound" = some (.ref fS))
    (GB : FnOk P w K mg base CX0 1 fB fdB ["statement"] (spBlocks K)) (kB : PySem.W.keepIn K (.ref fB) = true) (bB : Binds K fdB ["statement"] []) (mB : mg "blocks_of" = some (.ref fB))
    (bQ : Binds K fdQ ["block", "depth"] []) (mQ : mg "_quiet_ways" = some (.ref fQ)) (bO : Binds K fdO ["item", "depth"] []) (mO : mg "_quiet_ways_of" = some (.ref fO)) : ∀ f, FnOk P w K mg base CX0 (12 + 2 * f) fQ fdQ ["block", "depth"] (spQuiet K f)
  | 0 => (quiet_step (f := 0) FQ ((of_step (f := 0) FO mAny GS kS bS mS GB kB bB mB never_ok FQ.kp bQ mQ).mono (by omega)) FO.kp bO mO).mono (by omega)
  | f + 1 => (quiet_step (f := f + 1) FQ ((of_step (f := f + 1) FO mAny GS kS bS mS GB kB bB mB ((ok_quiet FO FQ mAny GS kS bS mS GB kB bB mB bQ mQ bO mO f).mono (by omega)) FQ.kp bQ mQ).mono (by omega)) FO.kp bO mO).mono (by omega)
theorem quietP {f : Nat} {fQ : Addr} {fdQ : FuncData} (G : ∀ f, FnOk P w K mg base CX0 (12 + 2 * f) fQ fdQ ["block", "depth"] (spQuiet K f)) : FnOk P w K mg base CX0 (11 + 2 * f) fQ fdQ ["block", "depth"] (spQuietP K f) := by
  cases f with
  | zero => exact never_ok
  | succ f => exact (G f).mono (by omega)
/-- whether a block deals -/
def spDeals (K : PySem.W.Frag) (f : Nat) : Sp := fun vs H Q _ => ∃ v d, ∃ n : Nat, vs = [v, .int (n : Int)] ∧ n + f = 12 ∧ Rp K H v d ∧ blockB d = true ∧ ∀ H', Same H H' → Q (.bl (!(quietB f d).1)) H'
def spDealsP (K : PySem.W.Frag) : Nat → Sp
  | 0 => fun _ _ _ _ => False
  | f + 1 => spDeals K f
theorem scDeals : FnScope ["block", "depth"] ["block", "depth"] (defScope sDeals) := ⟨rfl, rfl, rfl, by decide +kernel, rfl, by decide +kernel, by decide +kernel⟩
theorem ok_deals {f : Nat} {fD fQ : Addr} {fdD fdQ : FuncData} (F : Fun K "deals" "deals" sDeals fD fdD)
    (GQ : FnOk P w K mg base CX0 (12 + 2 * f) fQ fdQ ["block", "depth"] (spQuiet K f)) (kQ : PySem.W.keepIn K (.ref fQ) = true) (bQ : Binds K fdQ ["block", "depth"] []) (mQ : mg "_quiet_ways" = some (.ref fQ)) :
    FnOk P w K mg base CX0 (12 + 2 * f + 1) fD fdD ["block", "depth"] (spDeals K f) := by
  refine F.ok scDeals (fun vs H Q E h => ?_) (fun cdv A outer s H vs Q E hr h => ?_)
  · obtain ⟨v, d, n, rfl, _⟩ := h
    rfl
  · obtain ⟨v, d, n, rfl, hn, r, hb, k⟩ := h
    refine ⟨_, pss_one (ps_ret (pe_not (pe_ix ix_tup (pe_call GQ hr (by rfl) mQ kQ bQ .nil pass0 (pa_cons (pv 0) (pa_cons (pv 1) pa_nil))) pe_int (fun _ _ => rfl)))), ?_⟩
    exact ⟨_, rfl, _, rfl, v, d, n, rfl, hn, r, hb, fun q H2 ⟨s2, nq, hq⟩ => ⟨q, _, _, _, rfl, rfl, SqT.of hq, rfl, _, rfl, k H2 s2⟩⟩
theorem dealsP {f : Nat} {fD fQ : Addr} {fdD fdQ : FuncData} (F : Fun K "deals" "deals" sDeals fD fdD) (G : ∀ f, FnOk P w K mg base CX0 (12 + 2 * f) fQ fdQ ["block", "depth"] (spQuiet K f)) (kQ : PySem.W.keepIn K (.ref fQ) = true) (bQ : Binds K fdQ ["block", "depth"] []) (mQ : mg "_quiet_ways" = some (.ref fQ)) :
    FnOk P w K mg base CX0 (11 + 2 * f) fD fdD ["block", "depth"] (spDealsP K f) := by
  cases f with
  | zero => exact never_ok
  | succ f => exact (ok_deals F (G f) kQ bQ mQ).mono (by omega)
theorem ok_isWrongD {f : Nat} {fW fQ fS : Addr} {fdW fdQ fdS : FuncData} (F : Fun K "_is_wrong" "_is_wrong" sIsWrong fW fdW)
    (GS : FnOk P w K mg base CX0 10 fS fdS ["item", "depth"] (spSoundD K)) (kS : PySem.W.keepIn K (.ref fS) = true) (bS : Binds K fdS ["item", "depth"] []) (mS : mg "_is_sound" = some (.ref fS))
    (GQ : FnOk P w K mg base CX0 (11 + 2 * f) fQ fdQ ["block", "depth"] (spDealsP K f)) (kQ : PySem.W.keepIn K (.ref fQ) = true) (bQ : Binds K fdQ ["block", "depth"] []) (mQ : mg "deals" = some (.ref fQ)) :
    FnOk P w K mg base CX0 (11 + 2 * f + 1) fW fdW ["item", "depth", "in_repeat"] (spWrong K f) := by
  refine F.ok scIsWrong (fun vs H Q E h => ?_) (fun cdv A outer s H vs Q E hr h => ?_)
  · obtain ⟨v, d, n, inr, rfl, _⟩ := h
    rfl
  · obtain ⟨v, d, n, inr, rfl, hn, r, k⟩ := h
    have hr10 : Room 10 _ := hr.mono (by omega)
    refine ⟨_, pss_cons (ps_if (pt_not (pt_val (pe_call GS hr10 (by rfl) mS kS bS .nil pass0 (pa_cons (pv 0) (pa_cons (pv 1) pa_nil))))) (pss_one (ps_ret pe_bl)) pss_nil)
      (pss_cons (ps_if (pt_cmpR op_eq (pe_ix ix_tup (pv 0) pe_int (fun _ _ => rfl)) pe_str (nomark _)) (pss_one (ps_ret (pe_not (pv 2)))) pss_nil)
      (pss_one (ps_ret (pe_and (pe_cmpR op_eq (pe_ix ix_tup (pv 0) pe_int (fun _ _ => rfl)) pe_str (nomark _)) (pe_one (pe_not (pe_call GQ hr (by rfl) mQ kQ bQ .nil pass0 (pa_cons (pe_ix ix_tup (pv 0) pe_int (fun _ _ => rfl)) (pa_cons (pe_op op_add (pv 1) pe_int) pa_nil))))))))), ?_⟩
    have ge : ∀ {a b : Str}, a ≠ b → ¬ decide (V.str a = V.str b) = true := fun h z => h (V.str.inj (of_decide_eq_true z))
    refine ⟨_, rfl, _, rfl, v, d, n, rfl, r, fun H1 s1 => ⟨_, rfl, ?_⟩⟩
    cases hb : soundB n d with
    | false =>
      have e : wrongB f n inr d = true := by unfold wrongB; rw [if_pos hb]
      rw [e] at k
      exact iteT (k H1 s1)
    | true =>
      refine iteF ?_
      have nb : ¬ soundB n d = false := by rw [hb]; decide
      have hs : stmtB d = true := (Bool.and_eq_true_iff.mp (show (stmtB d && (decide (n < 12) || (blocksB d).length == 0)) = true from hb)).1
      obtain ⟨g, l, hk, hg, el⟩ := stmt_inv hs
      obtain ⟨p, xs, rfl, hp, ra⟩ := (el ▸ r : Rp K H v (.tup (.str (headB d) :: l))).tup_inv
      have ll := len_of el
      obtain ⟨v0, x0, r0⟩ := ra.get (i := 0) rfl
      cases r0
      have hp1 := s1 _ _ hp
      refine ⟨_, rfl, p, _, _, _, rfl, rfl, SqT.of hp1, at_of (j := 0) rfl x0, rfl, _, rfl, ?_⟩
      by_cases c1 : headB d = "leave"
      · refine ite2 (fun _ => ?_) (fun z => absurd (decide_eq_true (by rw [c1])) z)
        have e : wrongB f n inr d = !inr := by unfold wrongB; rw [if_neg nb, if_pos c1]
        rw [e] at k
        exact ⟨_, rfl, _, rfl, k H1 s1⟩
      refine ite2 (fun z => absurd z (ge c1)) fun _ => ?_
      refine ⟨_, rfl, p, _, _, _, rfl, rfl, SqT.of hp1, at_of (j := 0) rfl x0, rfl, _, rfl, ?_⟩
      have e : wrongB f n inr d = (decide (headB d = "repeat") && (quietR f (argB d 1)).1) := by unfold wrongB; rw [if_neg nb, if_neg c1]
      rw [e] at k
      by_cases c3 : headB d = "repeat"
      · refine ite2 (fun _ => ?_) (fun z => absurd (decide_eq_true (by rw [c3])) z)
        rw [decide_eq_true c3, Bool.true_and] at k
        obtain ⟨z1, z2⟩ := repeat_len hs c3
        have room : n < 12 := sound_room hb (by unfold blocksB; rw [if_neg (by rw [c3]; decide), if_pos c3]; simp)
        obtain ⟨f', rfl⟩ : ∃ f', f = f' + 1 := ⟨f - 1, by omega⟩
        obtain ⟨v1, x1, r1⟩ := arg_at (i := 1) ra (by rw [← ll, z1]; decide)
        rw [← el] at r1
        exact ⟨_, rfl, p, _, _, _, rfl, rfl, SqT.of hp1, at_of (j := 1) rfl x1, _, rfl, _, _, rfl, rfl, v1, argB d 1, n + 1, rfl, by omega, r1.keep s1, z2, fun H2 s2 => ⟨_, rfl, by rw [Bool.not_not]; exact k H2 (s1.trans s2)⟩⟩
      · refine ite2 (fun z => absurd z (ge c3)) fun _ => ?_
        rw [decide_eq_false c3, Bool.false_and] at k
        exact k H1 s1
end
end Oh
namespace Oh
open PySem PySem.Spec PyProof.Rows L2
/-- an empty tuple -/
def Tup0 (H : Hp) (p : Addr) : Prop := H p = some (.tup [])
def spFirst : Sp := fun vs H Q _ => ∃ B S p, vs = [.ref B, .ref p, .int 1, .bl false] ∧ HomeB H B S ∧ H p = some (.tup []) ∧ ∀ H', Same H H' → Q .non H'
def spCount : Sp := fun vs H Q _ => ∃ B S, vs = [.ref B] ∧ HomeB H B S ∧ ∀ H', Same H H' → Q (.int 1) H'
/-- the rows of the layout: one row, of the path (0,), the statement, none -/
def LaidAt (H : Hp) (L R T S : Addr) : Prop := H L = some (.lst [.ref R]) ∧ H R = some (.tup [.ref T, .ref S, .non]) ∧ H T = some (.tup [.int 0])
def spLaid : Sp := fun vs H Q _ => ∃ B S p, vs = [.ref B, .ref p, .non, .non] ∧ HomeB H B S ∧ H p = some (.tup []) ∧ ∀ L R T H', Same H H' → LaidAt H' L R T S → H L = none → H R = none → H T = none → Q (.ref L) H'
section
variable {P : Program} {w : World} {K : PySem.W.Frag} {mg : Str → Option Value} {base : Heap}
abbrev nFw : List Str := ["block", "path", "depth", "in_repeat", "index", "item", "here", "number", "inner", "repeated", "wrong"]
theorem scFirst : FnScope nFw ["block", "path", "depth", "in_repeat"] (defScope sFirstWrong) := ⟨rfl, rfl, rfl, by decide +kernel, rfl, by decide +kernel, by decide +kernel⟩
theorem ok_first {f fW fB : Addr} {fd fdW fdB : FuncData} (F : Fun K "first_wrong" "first_wrong" sFirstWrong f fd) (T : TxtP mg)
    (GW : FnOk P w K mg base CX0 4 fW fdW ["item", "depth", "in_repeat"] (spSound 3 false)) (kW : PySem.W.keepIn K (.ref fW) = true) (bW : Binds K fdW ["item", "depth", "in_repeat"] []) (mW : mg "_is_wrong" = some (.ref fW))
    (GB : FnOk P w K mg base CX0 1 fB fdB ["statement"] spBlocksOf) (kB : PySem.W.keepIn K (.ref fB) = true) (bB : Binds K fdB ["statement"] []) (mB : mg "blocks_of" = some (.ref fB)) :
    FnOk P w K mg base CX0 5 f fd ["block", "path", "depth", "in_repeat"] spFirst := by
  refine F.ok scFirst (fun vs H Q E h => ?_) (fun cdv A outer s H vs Q E hr h => ?_)
  · obtain ⟨B, S, p, rfl, _⟩ := h
    rfl
  · obtain ⟨B, S, p, rfl, hB, hp, k⟩ := h
    have hr1 : Room 1 _ := hr.mono (by decide)
    refine ⟨_, pss_cons (ps_for PassesOwn.never rfl (pi_enumT (by rfl) T.enum (pa_cons (pv 0) pa_nil)) (pg_tup rfl (pgs_cons (pg_name (i := 4) scFirst.nd rfl (Or.inl rfl)) (pgs_cons (pg_name (i := 5) scFirst.nd rfl (Or.inl rfl)) pgs_nil)))
        (pss_cons (ps_set (i := 6) scFirst.nd rfl (Or.inl rfl) (pe_op op_catA (pv 1) (pe_tup (pa_cons (pv 4) pa_nil))))
        (pss_cons (ps_if (pt_val (pe_call GW hr (by rfl) mW kW bW .nil pass0 (pa_cons (pv 5) (pa_cons (pv 2) (pa_cons (pv 3) pa_nil))))) (pss_one (ps_ret (pv 6))) pss_nil)
        (pss_one (ps_for PassesOwn.never rfl (pi_enum (by rfl) T.enum (pa_cons (pe_call GB hr1 (by rfl) mB kB bB .nil pass0 (pa_cons (pv 5) pa_nil)) pa_nil)) (pg_tup rfl (pgs_cons (pg_name (i := 7) scFirst.nd rfl (Or.inl rfl)) (pgs_cons (pg_name (i := 8) scFirst.nd rfl (Or.inl rfl)) pgs_nil))) pss_never)))))
      (pss_one (ps_ret pe_non)), ?_⟩
    refine ⟨_, rfl, B, _, rfl, SqT.of hB.1, for_it (walk_enumT (xs := [V.ref S])) (fun i σ H' => ∃ x, σ = [some (.ref B), some (.ref p), some (.int 1), some (.bl false)] ++ x ∧ x.length = 7 ∧ Same H H') ⟨_, rfl, rfl, Same.refl H⟩ ?_ ?_ ?_⟩
    · rintro i σ H' _ ⟨x, rfl, _, hS⟩
      exact SqT.of (hS _ _ hB.1)
    · rintro i x σ H1 H2 hi ⟨z, rfl, hz, hS⟩ ⟨Tp, x1, x2, rfl, nT, rfl, e1, e2⟩
      obtain rfl : i = 0 := by have : i < 1 := hi; omega
      obtain rfl := Option.some.inj e1
      obtain rfl := Option.some.inj e2
      match z, hz with
      | [z0, z1, z2, z3, z4, z5, z6], _ =>
      have s2 : Same H (upd H1 Tp (.tup [.int (0 : Nat), .ref S])) := hS.trans (Same.new nT)
      refine ⟨Tp, _, rfl, SqT.of upd_same, rfl, _, _, rfl, _, _, rfl, rfl, ?_⟩
      refine ⟨_, rfl, _, rfl, by decide, fun q nq => ⟨p, q, [], _, rfl, rfl, SqT.of ((Same.new nq) _ _ (s2 _ _ hp)), SqT.of upd_same, by decide, fun _ => ?_, fun z => absurd rfl z, fun z => absurd rfl z⟩⟩
      have s3 := s2.trans (Same.new (o := .tup [.int (0 : Nat)]) nq)
      have hS3 : HomeS _ S := (hB.keep s3).2
      refine ⟨_, rfl, _, rfl, _, rfl, S, rfl, hS3, fun H3 h3 => ⟨_, rfl, iteF ?_⟩⟩
      refine ⟨_, rfl, S, rfl, h3 _ _ hS3, fun L H4 h4 nL eL => ⟨L, [], rfl, SqL.of eL, for_it (walk_enum (xs := [])) (fun i σ H' => ∃ x, σ = [some (.ref B), some (.ref p), some (.int 1), some (.bl false)] ++ x ∧ x.length = 7 ∧ Same H H' ∧ H' L = some (.lst [])) ⟨_, rfl, rfl, s3.trans (h3.trans h4), eL⟩ ?_ ?_ ?_⟩⟩
      · rintro i σ H' _ ⟨x, _, _, _, e⟩
        exact SqL.of e
      · intro i x σ H' H'' hi
        exact absurd hi (Nat.not_lt_zero i)
      · rintro σ H' ⟨x, ex, hx, hS', _⟩
        exact ⟨x, ex, hx, hS'⟩
    · rintro σ H' ⟨x, rfl, hx, hS⟩
      exact k H' hS
abbrev nCo : List Str := ["block", "item", "inner"]
theorem boot_sumO : bootBuiltins "sum" = some (.builtin "sum") := by decide +kernel
theorem scCount : FnScope nCo ["block"] (defScope sCount) := ⟨rfl, rfl, rfl, by decide +kernel, rfl, by decide +kernel, by decide +kernel⟩
theorem ok_count {f fB : Addr} {fd fdB : FuncData} (F : Fun K "count_statements" "count_statements" sCount f fd) (T : TxtP mg)
    (GB : FnOk P w K mg base CX0 1 fB fdB ["statement"] spBlocksOf) (kB : PySem.W.keepIn K (.ref fB) = true) (bB : Binds K fdB ["statement"] []) (mB : mg "blocks_of" = some (.ref fB)) :
    FnOk P w K mg base CX0 4 f fd ["block"] spCount := by
  refine F.ok scCount (fun vs H Q E h => ?_) (fun cdv A outer s H vs Q E hr h => ?_)
  · obtain ⟨B, S, rfl, _⟩ := h
    rfl
  · obtain ⟨B, S, rfl, hB, k⟩ := h
    have hr1 : Room 1 _ := hr.mono (by decide)
    refine ⟨_, pss_one (ps_ret (pe_callB (cr_sum rfl) (by rfl) T.sum boot_sumO (pa_cons
        (pe_lc (own := [("item", 1)]) (g := gName 1) (tt := tYes) rfl scCount.nd (pi_tup (pv 0)) (blkOk_by (N := nCo) (sc := defScope sCount) (by decide +kernel)) (fun _ _ _ _ _ => pg_name (i := 1) scCount.nd rfl (Or.inl rfl)) (fun _ _ _ _ _ => pts_nil)
          (fun s1 H1 C1 cl1 fp1 => pe_op op_add pe_int (pe_callB (r := rSum K) (cr_sum rfl) (by rfl) T.sum boot_sumO (by exact (pa_cons
             (pe_lc (wi := iList K (tCall spBlocksOf [] E0 (tCons (tVar 1) tNil))) (own := [("inner", 2)]) (g := gName 2) (tt := tYes) (te := fun _ _ _ => False) rfl scCount.nd
               (by exact (pi_list (pe_call GB hr1 (by rfl) mB kB bB .nil pass0 (pa_cons (pv 1) pa_nil))))
               (blkOk_by (N := nCo) (by rfl))
               (fun _ _ _ _ _ => pg_name (i := 2) scCount.nd rfl (Or.inl rfl)) (fun _ _ _ _ _ => pts_nil) (fun _ _ _ _ _ => pe_never)) pa_nil))))) pa_nil))), ?_⟩
    refine ⟨_, rfl, B, rfl, ⟨_, SqT.of hB.1⟩, fun D hD => lc_it (walk_tup (xs := [V.ref S])) (fun i H' => Same H H' ∧ H' D = some (.lst (List.replicate i (V.int 1)))) ⟨Same.new hD, upd_same⟩ (fun i H' _ q => SqT.of (q.1 _ _ hB.1)) ?_ ?_⟩
    · rintro i x H1 H2 hi ⟨s1, d1⟩ ⟨e2, ex⟩
      subst e2
      obtain rfl : i = 0 := by have : i < 1 := hi; omega
      obtain rfl := Option.some.inj ex
      refine ⟨rfl, _, rfl, S, rfl, s1 _ _ hB.2, fun L H4 h4 nL eL => ⟨L, rfl, ⟨[], SqL.of eL⟩, fun D2 hD2 => lc_it (te := fun _ _ _ => False) (g := gName 2) (tt := tYes) (vs := [2]) (walk_list (xs := [])) (fun i H' => Same H2 H' ∧ H' L = some (.lst []) ∧ H' D2 = some (.lst [])) ⟨h4.trans (Same.new hD2), (Same.new hD2) _ _ eL, upd_same⟩ (fun i H' _ q => SqL.of q.2.1) ?_ ?_⟩⟩
      · intro i x Ha Hb hi
        exact absurd hi (Nat.not_lt_zero i)
      · rintro H5 ⟨s5, _, d5⟩
        refine ⟨D2, [], rfl, SqL.of d5, _, _, rfl, rfl, _, s5 _ _ d1, (by show 0 < sizeLine; decide), ?_, upd_same⟩
        intro b o e
        rw [upd_ne (ne_of_none e hD)]
        exact s5 _ _ (s1 _ _ e)
    · rintro H5 ⟨s5, d5⟩
      exact ⟨D, [1], rfl, SqL.of d5, k H5 s5⟩
abbrev nLa : List Str := ["block", "path", "behind", "outside", "rows", "index", "statement", "here", "follower", "number", "inner", "start"]
theorem scLaid : FnScope nLa ["block", "path", "behind", "outside"] (defScope sLaid) := ⟨rfl, rfl, rfl, by decide +kernel, rfl, by decide +kernel, by decide +kernel⟩
theorem ok_laid {f fB : Addr} {fd fdB : FuncData} (F : Fun K "laid_out" "laid_out" sLaid f fd) (T : TxtP mg)
    (GB : FnOk P w K mg base CX0 1 fB fdB ["statement"] spBlocksOf) (kB : PySem.W.keepIn K (.ref fB) = true) (bB : Binds K fdB ["statement"] []) (mB : mg "blocks_of" = some (.ref fB)) :
    FnOk P w K mg base CX0 2 f fd ["block", "path", "behind", "outside"] spLaid := by
  refine F.ok scLaid (fun vs H Q E h => ?_) (fun cdv A outer s H vs Q E hr h => ?_)
  · obtain ⟨B, S, p, rfl, _⟩ := h
    rfl
  · obtain ⟨B, S, p, rfl, hB, hp, k⟩ := h
    have hr1 : Room 1 _ := hr.mono (by decide)
    refine ⟨_, pss_cons (ps_set (i := 4) scLaid.nd rfl (Or.inl rfl) (pe_lst pa_nil))
      (pss_cons (ps_for PassesOwn.never rfl (pi_enumT (by rfl) T.enum (pa_cons (pv 0) pa_nil)) (pg_tup rfl (pgs_cons (pg_name (i := 5) scLaid.nd rfl (Or.inl rfl)) (pgs_cons (pg_name (i := 6) scLaid.nd rfl (Or.inl rfl)) pgs_nil)))
        (pss_cons (ps_set (i := 7) scLaid.nd rfl (Or.inl rfl) (pe_op op_catA (pv 1) (pe_tup (pa_cons (pv 5) pa_nil))))
        (pss_cons (ps_set (i := 8) scLaid.nd rfl (Or.inl rfl) (pe_ifExp (pt_cmpR op_lt (pe_op op_add (pv 5) pe_int) (pe_callB call_len_seq (by rfl) T.len boot_len (pa_cons (pv 0) pa_nil)) (nomark _)) pe_never (pv 2)))
        (pss_cons (ps_expr (pe_bm PySem.F.plainAttrs_list PySem.F.slot_list_append PySem.F.type_list_append mt_append (pv 4)
            (pa_cons (pe_tup (pa_cons (pv 7) (pa_cons (pv 6) (pa_cons (pe_ifExp (pt_cmpR op_eq (pe_ix ix_tup (pv 6) pe_int (fun _ _ => rfl)) pe_str (nomark _)) (pv 3) (pv 8)) pa_nil)))) pa_nil)))
        (pss_one (ps_for PassesOwn.never rfl (pi_enum (by rfl) T.enum (pa_cons (pe_call GB hr1 (by rfl) mB kB bB .nil pass0 (pa_cons (pv 6) pa_nil)) pa_nil)) (pg_tup rfl (pgs_cons (pg_name (i := 9) scLaid.nd rfl (Or.inl rfl)) (pgs_cons (pg_name (i := 10) scLaid.nd rfl (Or.inl rfl)) pgs_nil))) pss_never))))))
      (pss_one (ps_ret (pv 4)))), ?_⟩
    refine ⟨by decide, fun L nL => ?_⟩
    refine ⟨_, rfl, B, _, rfl, SqT.of ((Same.new nL) _ _ hB.1), for_it (walk_enumT (xs := [V.ref S])) (fun i σ H' => ∃ x, σ = [some (.ref B), some (.ref p), some .non, some .non, some (.ref L)] ++ x ∧ x.length = 7 ∧ Same H H' ∧ (i = 0 → H' L = some (.lst [])) ∧ (i = 1 → ∃ R T, LaidAt H' L R T S ∧ H R = none ∧ H T = none))
      ⟨_, rfl, rfl, Same.new nL, fun _ => upd_same, fun z => absurd z (by decide)⟩ ?_ ?_ ?_⟩
    · rintro i σ H' _ ⟨x, ex, _, hS, _⟩
      exact SqT.of (hS _ _ hB.1)
    · rintro i x σ H1 H2 hi ⟨z, ez, hz, hS, hL, _⟩ ⟨Tp, x1, x2, rfl, nT, rfl, e1, e2⟩
      obtain rfl : i = 0 := by have : i < 1 := hi; omega
      obtain rfl := Option.some.inj e1
      obtain rfl := Option.some.inj e2
      subst ez
      have hL := hL rfl
      match z, hz with
      | [z0, z1, z2, z3, z4, z5, z6], _ =>
      have s2 : Same H1 (upd H1 Tp (.tup [.int (0 : Nat), .ref S])) := Same.new nT
      refine ⟨Tp, _, rfl, SqT.of upd_same, rfl, _, _, rfl, _, _, rfl, rfl, ?_⟩
      refine ⟨_, rfl, _, rfl, by decide, fun q nq => ⟨p, q, [], _, rfl, rfl, SqT.of ((Same.new nq) _ _ (s2 _ _ (hS _ _ hp))), SqT.of upd_same, by decide, fun _ => ?_, fun z => absurd rfl z, fun z => absurd rfl z⟩⟩
      have s3 := s2.trans (Same.new (o := .tup [.int (0 : Nat)]) nq)
      have nq' : H q = none := (hS.trans s2).free nq
      have hB3 := (hB.keep (hS.trans s3))
      refine ⟨_, rfl, _, _, rfl, rfl, _, rfl, B, _, rfl, .inr (SqT.of hB3.1), _, _, rfl, rfl, _, rfl, ite2 (fun z => by simp at z) fun _ => ?_⟩
      refine ⟨_, rfl, ?_⟩
      refine ⟨_, rfl, .inl ⟨rfl, _, SqL.of (s3 _ _ hL)⟩, ?_⟩
      refine ⟨_, rfl, _, rfl, _, rfl, S, _, _, _, rfl, rfl, SqT.of hB3.2, rfl, rfl, _, rfl, ite2 (fun z => absurd z (by decide)) fun _ => ?_⟩
      refine ⟨_, rfl, (by show 3 ≤ sizeLine; decide), fun R nR => ?_⟩
      have s4 := s3.trans (Same.new (o := .tup [.ref q, .ref S, .non]) nR)
      have nR' : H R = none := (hS.trans s3).free nR
      have hL4 := s4 _ _ hL
      have hq4 : upd (upd (upd H1 Tp (.tup [.int (0 : Nat), .ref S])) q (.tup [.int (0 : Nat)])) R (.tup [.ref q, .ref S, .non]) q = some (.tup [.int (0 : Nat)]) := (Same.new nR) _ _ upd_same
      have hR4 : upd (upd (upd H1 Tp (.tup [.int (0 : Nat), .ref S])) q (.tup [.int (0 : Nat)])) R (.tup [.ref q, .ref S, .non]) R = some (.tup [.ref q, .ref S, .non]) := upd_same
      have qL : q ≠ L := fun z => by subst z; cases hq4.symm.trans hL4
      have RL : R ≠ L := fun z => by subst z; cases hR4.symm.trans hL4
      refine ⟨L, [], _, rfl, rfl, hL4, (by show 0 < sizeLine; decide), ?_⟩
      have s5 : Same H (upd (upd (upd (upd H1 Tp (.tup [.int (0 : Nat), .ref S])) q (.tup [.int (0 : Nat)])) R (.tup [.ref q, .ref S, .non])) L (.lst [.ref R])) := fun b o e => by
        rw [upd_ne (ne_of_none e nL)]
        exact hS.trans s4 _ _ e
      have la : LaidAt (upd (upd (upd (upd H1 Tp (.tup [.int (0 : Nat), .ref S])) q (.tup [.int (0 : Nat)])) R (.tup [.ref q, .ref S, .non])) L (.lst [.ref R])) L R q S :=
        ⟨upd_same, by rw [upd_ne RL]; exact hR4, by rw [upd_ne qL]; exact hq4⟩
      refine ⟨_, rfl, S, rfl, s5 _ _ hB.2, fun L2 H5 h5 nL2 eL2 => ⟨L2, [], rfl, SqL.of eL2, for_it (walk_enum (xs := [])) (fun i σ H' => (∃ x, σ = [some (.ref B), some (.ref p), some .non, some .non, some (.ref L)] ++ x ∧ x.length = 7) ∧ Same H H' ∧ LaidAt H' L R q S ∧ H' L2 = some (.lst []))
        ⟨⟨_, rfl, rfl⟩, s5.trans h5, ⟨h5 _ _ la.1, h5 _ _ la.2.1, h5 _ _ la.2.2⟩, eL2⟩ ?_ ?_ ?_⟩⟩
      · rintro i σ H' _ ⟨_, _, _, e⟩
        exact SqL.of e
      · intro i x σ H' H'' hi
        exact absurd hi (Nat.not_lt_zero i)
      · rintro σ H' ⟨⟨x, ex, hx⟩, hS', la', _⟩
        exact ⟨x, ex, hx, hS', fun z => absurd z (by decide), fun _ => ⟨R, q, la', nR', nq'⟩⟩
    · rintro σ H' ⟨x, ex, hx, hS, _, hR⟩
      obtain ⟨R, T', hA, nR, nT⟩ := hR rfl
      subst ex
      exact ⟨_, rfl, k L R T' H' hS hA nL nR nT⟩
end
end Oh
namespace Oh
open PySem PySem.Spec PyProof.Rows L2 PpSet
theorem cat_path {K : PySem.W.Frag} {H : Hp} {p q : Addr} {path : List Nat} {i : Nat} {Q : VK} (hp : H p = some (.tup (pathV path))) (hq : H q = some (.tup [.int (i : Int)])) (small : path.length ≤ 1000) (k : ∀ r H', Same H H' → H' r = some (.tup (pathV (path ++ [i]))) → Q (.ref r) H') :
    rCatA K (.ref p) (.ref q) H Q := by
  have e : pathV (path ++ [i]) = pathV path ++ [V.int (i : Int)] := by show List.map _ _ = _; rw [List.map_append]; rfl
  refine ⟨p, q, pathV path, [.int (i : Int)], rfl, rfl, SqT.of hp, SqT.of hq, ?_, fun z => ?_, fun _ z => absurd z (by simp), fun _ _ r nr => ?_⟩
  · show (List.map _ path).length + 1 ≤ sizeLine
    rw [List.length_map]
    exact Nat.le_trans (show path.length + 1 ≤ 1001 by omega) (by decide)
  · have z' : path = [] := by
      cases path with
      | nil => rfl
      | cons a b => cases z
    subst z'
    exact k q H (Same.refl H) hq
  · refine k r _ (Same.new nr) ?_
    rw [upd_same, e]
section
variable {P : Program} {w : World} {K : PySem.W.Frag} {mg : Str → Option Value} {base : Heap} {kw pk ck : Addr}
theorem first_step {f : Nat} {fF fW fB : Addr} {fdF fdW fdB : FuncData} (F : Fun K "first_wrong" "first_wrong" sFirstWrong fF fdF) (T : TxtP mg)
    (GW : FnOk P w K mg base CX0 (12 + 2 * f) fW fdW ["item", "depth", "in_repeat"] (spWrong K f)) (kW : PySem.W.keepIn K (.ref fW) = true) (bW : Binds K fdW ["item", "depth", "in_repeat"] []) (mW : mg "_is_wrong" = some (.ref fW))
    (GB : FnOk P w K mg base CX0 1 fB fdB ["statement"] (spBlocks K)) (kB : PySem.W.keepIn K (.ref fB) = true) (bB : Binds K fdB ["statement"] []) (mB : mg "blocks_of" = some (.ref fB))
    (GP : FnOk P w K mg base CX0 (12 + 2 * f) fF fdF ["block", "path", "depth", "in_repeat"] (spFirstP K f)) (bF : Binds K fdF ["block", "path", "depth", "in_repeat"] []) (mF : mg "first_wrong" = some (.ref fF)) :
    FnOk P w K mg base CX0 (12 + 2 * f + 1) fF fdF ["block", "path", "depth", "in_repeat"] (spFirstD K f) := by
  refine F.ok scFirst (fun vs H Q E h => ?_) (fun cdv A outer s H vs Q E hr h => ?_)
  · obtain ⟨v, d, p, path, n, inr, rfl, _⟩ := h
    rfl
  · obtain ⟨v, d, p, path, n, inr, rfl, hn, r, hb, hp, small, k⟩ := h
    have hr1 : Room 1 _ := hr.mono (by omega)
    obtain ⟨l, rfl, ll⟩ := block_inv hb
    obtain ⟨B, xs, rfl, hB, ra⟩ := r.tup_inv
    have hl := ra.len
    have en : 12 - f = n := by omega
    refine ⟨_, pss_cons (ps_for PassesOwn.never rfl (pi_enumT (by rfl) T.enum (pa_cons (pv 0) pa_nil)) (pg_tup rfl (pgs_cons (pg_name (i := 4) scFirst.nd rfl (Or.inl rfl)) (pgs_cons (pg_name (i := 5) scFirst.nd rfl (Or.inl rfl)) pgs_nil)))
        (pss_cons (ps_set (i := 6) scFirst.nd rfl (Or.inl rfl) (pe_op op_catA (pv 1) (pe_tup (pa_cons (pv 4) pa_nil))))
        (pss_cons (ps_if (pt_val (pe_call GW hr (by rfl) mW kW bW .nil pass0 (pa_cons (pv 5) (pa_cons (pv 2) (pa_cons (pv 3) pa_nil))))) (pss_one (ps_ret (pv 6))) pss_nil)
        (pss_one (ps_for PassesOwn.never rfl (pi_enum (by rfl) T.enum (pa_cons (pe_call GB hr1 (by rfl) mB kB bB .nil pass0 (pa_cons (pv 5) pa_nil)) pa_nil)) (pg_tup rfl (pgs_cons (pg_name (i := 7) scFirst.nd rfl (Or.inl rfl)) (pgs_cons (pg_name (i := 8) scFirst.nd rfl (Or.inl rfl)) pgs_nil)))
          (pss_cons (ps_set (i := 9) scFirst.nd rfl (Or.inl rfl) (pe_or (pv 3) (pe_one (pe_cmpR op_eq (pe_ix ix_tup (pv 5) pe_int (fun _ _ => rfl)) pe_str (nomark _)))))
          (pss_cons (ps_set (i := 10) scFirst.nd rfl (Or.inl rfl) (pe_call GP hr (by rfl) mF F.kp bF .nil pass0 (pa_cons (pv 8) (pa_cons (pe_op op_catA (pv 6) (pe_tup (pa_cons (pv 7) pa_nil))) (pa_cons (pe_op op_add (pv 2) pe_int) (pa_cons (pv 9) pa_nil))))))
          (pss_one (ps_if (pt_cmpR op_notN (pv 10) pe_non (nomark _)) (pss_one (ps_ret (pv 10))) pss_nil)))))))))
      (pss_one (ps_ret pe_non)), ?_⟩
    refine ⟨_, rfl, B, xs, rfl, SqT.of hB, for_it (walk_enumT (xs := xs)) (fun i σ H' => ∃ x, σ = [some (.ref B), some (.ref p), some (.int (n : Int)), some (.bl inr)] ++ x ∧ x.length = 7 ∧ Same H H' ∧ firstB f (.tup l) path inr = goItems (firstR f) f n path inr (l.drop i) i)
      ⟨_, rfl, rfl, Same.refl H, by show goItems (firstR f) f (12 - f) path inr l 0 = _; rw [en]; rfl⟩ ?_ ?_ ?_⟩
    · rintro i σ H' _ ⟨x, _, _, s', _⟩
      exact SqT.of (s' _ _ hB)
    · rintro i x σ H1 H2 hi ⟨z, ez, hz, s1, e⟩ ⟨Tp, x1, x2, rfl, nT, rfl, e1, e2⟩
      obtain rfl := Option.some.inj e1
      have li : i < l.length := by rw [← hl]; exact hi
      obtain ⟨vi, ev, rv⟩ := ra.get (i := i) (d := l[i]) (List.getElem?_eq_getElem li)
      obtain rfl := Option.some.inj (ev.symm.trans e2)
      have dr : l.drop i = l[i] :: l.drop (i + 1) := List.drop_eq_getElem_cons li
      rw [dr] at e
      generalize hd : l[i] = d at e rv
      subst ez
      match z, hz with
      | [z0, z1, z2, z3, z4, z5, z6], _ =>
      have s2 : Same H (upd H1 Tp (.tup [.int (i : Nat), vi])) := s1.trans (Same.new nT)
      refine ⟨Tp, _, rfl, SqT.of upd_same, rfl, _, _, rfl, _, _, rfl, rfl, ?_⟩
      refine ⟨_, rfl, _, rfl, (by show 1 ≤ sizeLine; decide), fun q nq => cat_path (path := path) (i := i) ((Same.new nq) _ _ (s2 _ _ hp)) upd_same (by omega) fun here H3 s3 hh => ?_⟩
      have s03 : Same H H3 := s2.trans ((Same.new nq).trans s3)
      refine ⟨_, rfl, _, rfl, _, rfl, vi, d, n, inr, rfl, hn, rv.keep s03, fun H4 s4 => ⟨_, rfl, ?_⟩⟩
      have s04 := s03.trans s4
      have e' : firstB f (.tup l) path inr = if wrongB f n inr d = true then some (path ++ [i]) else match goBlocks (firstR f) (path ++ [i]) (inr || decide (headB d = "repeat")) (blocksB d) 0 with
        | some w => some w
        | none => goItems (firstR f) f n path inr (l.drop (i + 1)) (i + 1) := e
      cases hw : wrongB f n inr d with
      | true =>
        rw [hw, if_pos rfl] at e'
        refine iteT ⟨_, rfl, k _ H4 s04 ?_⟩
        rw [e']
        exact ⟨here, rfl, s4 _ _ hh⟩
      | false =>
        refine iteF ?_
        rw [hw, if_neg (by decide)] at e'
        have hb : soundB n d = true := by
          cases hb : soundB n d with
          | true => rfl
          | false => rw [show wrongB f n inr d = true by unfold wrongB; rw [if_pos hb]] at hw; cases hw
        have hs : stmtB d = true := (Bool.and_eq_true_iff.mp (show (stmtB d && (decide (n < 12) || (blocksB d).length == 0)) = true from hb)).1
        obtain ⟨bk, b4⟩ := blocks_ok hs
        generalize hrep : (inr || decide (headB d = "repeat")) = rep at e'
        refine ⟨_, rfl, vi, d, rfl, rv.keep s04, hs, fun L H5 ys s5 nL hL rb => ?_⟩
        have s05 := s04.trans s5
        refine ⟨L, ys, rfl, SqL.of hL, for_it (walk_enum (xs := ys)) (fun j σ H' => (∃ x, σ = [some (.ref B), some (.ref p), some (.int (n : Int)), some (.bl inr), some (.int (i : Nat)), some vi, some (.ref here)] ++ x ∧ x.length = 4) ∧ Same H5 H' ∧
          firstB f (.tup l) path inr = match goBlocks (firstR f) (path ++ [i]) rep ((blocksB d).drop j) j with
            | some w => some w
            | none => goItems (firstR f) f n path inr (l.drop (i + 1)) (i + 1)) ⟨⟨_, rfl, rfl⟩, Same.refl H5, e'⟩ ?_ ?_ ?_⟩
        · rintro j σ H' _ ⟨_, s', _⟩
          exact SqL.of (s' _ _ hL)
        · rintro j x σ H6 H7 hj ⟨⟨y, ey, hy⟩, s6, ej⟩ ⟨Tq, y1, y2, rfl, nTq, rfl, g1, g2⟩
          obtain rfl := Option.some.inj g1
          have lj : j < (blocksB d).length := by rw [← rb.len]; exact hj
          obtain ⟨vb, evb, rvb⟩ := rb.get (i := j) (d := (blocksB d)[j]) (List.getElem?_eq_getElem lj)
          obtain rfl := Option.some.inj (evb.symm.trans g2)
          have room : n < 12 := sound_room hb (by omega)
          obtain ⟨f', rfl⟩ : ∃ f', f = f' + 1 := ⟨f - 1, by omega⟩
          have drj : (blocksB d).drop j = (blocksB d)[j] :: (blocksB d).drop (j + 1) := List.drop_eq_getElem_cons lj
          rw [drj] at ej
          have bkj := bk _ (List.getElem_mem lj)
          generalize (blocksB d)[j] = db at ej rvb bkj
          subst ey
          match y, hy with
          | [y0, y1, y2, y3], _ =>
          have s7 : Same H (upd H6 Tq (.tup [.int (j : Nat), vb])) := s05.trans (s6.trans (Same.new nTq))
          have s57 : Same H5 (upd H6 Tq (.tup [.int (j : Nat), vb])) := s6.trans (Same.new nTq)
          refine ⟨Tq, _, rfl, SqT.of upd_same, rfl, _, _, rfl, _, _, rfl, rfl, ?_⟩
          obtain ⟨g', l', _, _, el⟩ := stmt_inv hs
          obtain ⟨pi, xi, rfl, hpi, rai⟩ := (el ▸ rv : Rp K H vi (.tup (.str (headB d) :: l'))).tup_inv
          obtain ⟨v0, x0, r0⟩ := rai.get (i := 0) rfl
          cases r0
          have dc : decide (V.str (headB d) = V.str "repeat") = decide (headB d = "repeat") := by
            by_cases c : headB d = "repeat"
            · rw [decide_eq_true c, decide_eq_true (by rw [c])]
            · rw [decide_eq_false c, decide_eq_false (fun z => c (V.str.inj z))]
          have hh5 := s57 _ _ (s5 _ _ (s4 _ _ hh))
          cases inr
          rotate_left
          have er : rep = true := hrep.symm
          subst er
          refine ⟨_, rfl, _, rfl, iteT ?_⟩
          rotate_left
          have er : rep = decide (headB d = "repeat") := by rw [← hrep, Bool.false_or]
          refine ⟨_, rfl, _, rfl, iteF ⟨_, rfl, pi, _, _, _, rfl, rfl, SqT.of (s7 _ _ hpi), at_of (j := 0) rfl x0, rfl, ?_⟩⟩
          rw [dc, ← er]
          all_goals
            refine ⟨_, rfl, _, rfl, _, rfl, (by show 1 ≤ sizeLine; decide), fun q2 nq2 => cat_path (path := path ++ [i]) (i := j) ((Same.new nq2) _ _ hh5) upd_same (by rw [List.length_append, List.length_singleton]; omega) fun r2 H8 s8 hr2 => ?_⟩
            have s68 : Same (upd H6 Tq (.tup [.int (j : Nat), vb])) H8 := (Same.new nq2).trans s8
            refine ⟨_, rfl, _, _, rfl, rfl, _, rfl, vb, db, r2, path ++ [i] ++ [j], n + 1, _, rfl, by omega, rvb.keep (s57.trans s68), bkj, hr2, (by rw [List.length_append, List.length_append, List.length_singleton, List.length_singleton]; omega), fun v' H9 s9 hv => ?_⟩
            have s89 := s68.trans s9
            have ej' := ej
            unfold goBlocks at ej'
            generalize hres : firstB f' db (path ++ [i] ++ [j]) _ = res at hv
            rw [show firstR (f' + 1) db (path ++ [i] ++ [j]) _ = res from hres] at ej'
            cases res with
            | none =>
              have hv : v' = .non := hv
              subst hv
              refine ⟨_, rfl, rfl, _, rfl, ite2 (fun z => absurd z (by decide)) fun _ => ⟨⟨_, rfl, rfl⟩, s57.trans s89, ej'⟩⟩
            | some w =>
              obtain ⟨pw, rfl, hpw⟩ := (show ∃ pw, v' = .ref pw ∧ H9 pw = some (.tup (pathV w)) from hv)
              refine ⟨_, rfl, rfl, _, rfl, ite2 (fun _ => ⟨_, rfl, k _ H9 (s7.trans s89) ?_⟩) (fun z => absurd rfl z)⟩
              rw [ej']
              exact ⟨pw, rfl, hpw⟩
        · rintro σ H' ⟨⟨x, ex, hx⟩, s', ej⟩
          rw [show (blocksB d).drop ys.length = [] by rw [rb.len]; exact List.drop_length] at ej
          refine ⟨[some (.int (i : Nat)), some vi, some (.ref here)] ++ x, by rw [ex]; rfl, by rw [List.length_append, hx]; rfl, s05.trans s', ej⟩
    · rintro σ H1 ⟨x, ex, hx, s1, e⟩
      rw [show l.drop xs.length = [] by rw [hl]; exact List.drop_length] at e
      refine k _ H1 s1 ?_
      rw [e]
      rfl
end
end Oh
namespace Oh
open PySem PySem.Spec PyProof.Rows L2 PpSet
/-- all the items of a block, f levels below, are sound and right: what first_wrong says by none -/
abbrev rightB (f n : Nat) (b : DT) : Prop := firstB f b [] false = none
/-- how many statements -/
def countR : Nat → DT → Nat
  | 0 => fun _ => 0
  | f + 1 => fun b => ((listB b).map fun d => 1 + ((blocksB d).map (countR f)).sum).sum
abbrev countB (f : Nat) : DT → Nat := countR (f + 1)
/-- a block of statements, f levels below at most -/
def goodR : Nat → DT → Bool
  | 0 => fun _ => false
  | f + 1 => fun b => blockB b && (listB b).all fun d => stmtB d && (blocksB d).all (goodR f)
abbrev goodB (f : Nat) : DT → Bool := goodR (f + 1)
def spCountD (K : PySem.W.Frag) (f : Nat) : Sp := fun vs H Q _ => ∃ v d, vs = [v] ∧ Rp K H v d ∧ goodB f d = true ∧ ∀ H', Same H H' → Q (.int (countB f d : Nat)) H'
def spCountP (K : PySem.W.Frag) : Nat → Sp
  | 0 => fun _ _ _ _ => False
  | f + 1 => spCountD K f
theorem good_inv {f : Nat} {d : DT} (h : goodB f d = true) : ∃ l, d = .tup l ∧ l.length ≤ 12 ∧ ∀ x ∈ l, stmtB x = true ∧ ∀ b ∈ blocksB x, goodR f b = true := by
  have h : (blockB d && (listB d).all fun d => stmtB d && (blocksB d).all (goodR f)) = true := h
  obtain ⟨h1, h2⟩ := Bool.and_eq_true_iff.mp h
  obtain ⟨l, rfl, ll⟩ := block_inv h1
  refine ⟨l, rfl, ll, fun x mx => ?_⟩
  obtain ⟨h3, h4⟩ := Bool.and_eq_true_iff.mp (List.all_eq_true.mp h2 x mx)
  exact ⟨h3, fun b mb => List.all_eq_true.mp h4 b mb⟩
/-- first_wrong finds nothing: all is good -/
theorem goBlocks_none {rec : DT → List Nat → Bool → Option (List Nat)} {here : List Nat} {rep : Bool} : ∀ (bs : List DT) (j : Nat), goBlocks rec here rep bs j = none → ∀ b ∈ bs, ∃ j', rec b (here ++ [j']) rep = none
  | [], _, _, b, mb => by cases mb
  | b0 :: bs, j, h, b, mb => by
    unfold goBlocks at h
    cases e : rec b0 (here ++ [j]) rep with
    | some w => rw [e] at h; cases h
    | none =>
      rw [e] at h
      rcases List.mem_cons.mp mb with rfl | mb
      · exact ⟨j, e⟩
      · exact goBlocks_none bs (j + 1) h b mb
theorem goItems_none {rec : DT → List Nat → Bool → Option (List Nat)} {f n : Nat} {path : List Nat} {inr : Bool} : ∀ (ds : List DT) (i : Nat), goItems rec f n path inr ds i = none → ∀ d ∈ ds, wrongB f n inr d = false ∧ ∃ i', goBlocks rec (path ++ [i']) (inr || decide (headB d = "repeat")) (blocksB d) 0 = none
  | [], _, _, d, md => by cases md
  | d0 :: ds, i, h, d, md => by
    unfold goItems at h
    cases e : wrongB f n inr d0 with
    | true => rw [e, if_pos rfl] at h; cases h
    | false =>
      rw [e, if_neg (by decide)] at h
      cases e2 : goBlocks rec (path ++ [i]) (inr || decide (headB d0 = "repeat")) (blocksB d0) 0 with
      | some w => rw [e2] at h; cases h
      | none =>
        rw [e2] at h
        rcases List.mem_cons.mp md with rfl | md
        · exact ⟨e, i, e2⟩
        · exact goItems_none ds (i + 1) h d md
theorem wrong_stmt {f n : Nat} {inr : Bool} {d : DT} (h : wrongB f n inr d = false) : stmtB d = true ∧ soundB n d = true := by
  have hb : soundB n d = true := by
    cases hb : soundB n d with
    | true => rfl
    | false => rw [show wrongB f n inr d = true by unfold wrongB; rw [if_pos hb]] at h; cases h
  exact ⟨(Bool.and_eq_true_iff.mp (show (stmtB d && (decide (n < 12) || (blocksB d).length == 0)) = true from hb)).1, hb⟩
theorem first_good : ∀ (f : Nat) (d : DT) (path : List Nat) (inr : Bool), f ≤ 12 → blockB d = true → firstB f d path inr = none → goodB f d = true
  | f, d, path, inr, hf, hb, h => by
    have h : goItems (firstR f) f (12 - f) path inr (listB d) 0 = none := h
    show (blockB d && (listB d).all fun d => stmtB d && (blocksB d).all (goodR f)) = true
    rw [hb, Bool.true_and, List.all_eq_true]
    intro x mx
    obtain ⟨hw, i', hg⟩ := goItems_none _ _ h x mx
    obtain ⟨hs, hso⟩ := wrong_stmt hw
    rw [hs, Bool.true_and, List.all_eq_true]
    intro b mb
    obtain ⟨bk, _⟩ := blocks_ok hs
    have room : 12 - f < 12 := sound_room hso (fun z => by
      have : blocksB x = [] := List.length_eq_zero_iff.mp z
      rw [this] at mb
      cases mb)
    match f, hf, room, hg with
    | f' + 1, hf, room, hg =>
      obtain ⟨j, hj⟩ := goBlocks_none _ _ hg b mb
      exact first_good f' b _ _ (by omega) (bk b mb) hj
section
variable {P : Program} {w : World} {K : PySem.W.Frag} {mg : Str → Option Value} {base : Heap} {kw pk ck : Addr}
theorem ok_firstD {fF fW fB fQ fS fD : Addr} {fdF fdW fdB fdQ fdS fdD : FuncData} (F : Fun K "first_wrong" "first_wrong" sFirstWrong fF fdF) (T : TxtP mg) (FW : Fun K "_is_wrong" "_is_wrong" sIsWrong fW fdW)
    (GS : FnOk P w K mg base CX0 10 fS fdS ["item", "depth"] (spSoundD K)) (kS : PySem.W.keepIn K (.ref fS) = true) (bS : Binds K fdS ["item", "depth"] []) (mS : mg "_is_sound" = some (.ref fS))
    (GQ : ∀ f, FnOk P w K mg base CX0 (12 + 2 * f) fQ fdQ ["block", "depth"] (spQuiet K f)) (kQ : PySem.W.keepIn K (.ref fQ) = true) (bQ : Binds K fdQ ["block", "depth"] []) (mQ : mg "_quiet_ways" = some (.ref fQ))
    (FD : Fun K "deals" "deals" sDeals fD fdD) (bD : Binds K fdD ["block", "depth"] []) (mD : mg "deals" = some (.ref fD))
    (bW : Binds K fdW ["item", "depth", "in_repeat"] []) (mW : mg "_is_wrong" = some (.ref fW))
    (GB : FnOk P w K mg base CX0 1 fB fdB ["statement"] (spBlocks K)) (kB : PySem.W.keepIn K (.ref fB) = true) (bB : Binds K fdB ["statement"] []) (mB : mg "blocks_of" = some (.ref fB))
    (bF : Binds K fdF ["block", "path", "depth", "in_repeat"] []) (mF : mg "first_wrong" = some (.ref fF)) : ∀ f, FnOk P w K mg base CX0 (13 + 2 * f) fF fdF ["block", "path", "depth", "in_repeat"] (spFirstD K f)
  | 0 => (first_step (f := 0) F T ((ok_isWrongD (f := 0) FW GS kS bS mS (dealsP FD GQ kQ bQ mQ) FD.kp bD mD).mono (by omega)) FW.kp bW mW GB kB bB mB never_ok bF mF).mono (by omega)
  | f + 1 => (first_step (f := f + 1) F T ((ok_isWrongD (f := f + 1) FW GS kS bS mS (dealsP FD GQ kQ bQ mQ) FD.kp bD mD).mono (by omega)) FW.kp bW mW GB kB bB mB ((ok_firstD F T FW GS kS bS mS GQ kQ bQ mQ FD bD mD bW mW GB kB bB mB bF mF f).mono (by omega)) bF mF).mono (by omega)
end
end Oh
namespace Oh
open PySem PySem.Spec PyProof.Rows L2 PpSet
abbrev intsV (l : List Nat) : List V := (l.map fun n : Nat => (n : Int)).map V.int
theorem sum_cast : ∀ l : List Nat, (l.map fun n : Nat => (n : Int)).sum = ((l.sum : Nat) : Int)
  | [] => rfl
  | a :: l => by
    rw [List.map_cons, List.sum_cons, List.sum_cons, sum_cast l]
    omega
theorem ints_take {l : List Nat} {i c : Nat} (h : l[i]? = some c) : intsV (l.take (i + 1)) = intsV (l.take i) ++ [V.int (c : Int)] := by
  show List.map _ (List.map _ _) = _
  rw [List.take_add_one, h, List.map_append, List.map_append]
  rfl
section
variable {P : Program} {w : World} {K : PySem.W.Frag} {mg : Str → Option Value} {base : Heap} {kw pk ck : Addr}
theorem count_step {f : Nat} {fC fB : Addr} {fdC fdB : FuncData} (F : Fun K "count_statements" "count_statements" sCount fC fdC) (T : TxtP mg)
    (GB : FnOk P w K mg base CX0 1 fB fdB ["statement"] (spBlocks K)) (kB : PySem.W.keepIn K (.ref fB) = true) (bB : Binds K fdB ["statement"] []) (mB : mg "blocks_of" = some (.ref fB))
    (GP : FnOk P w K mg base CX0 (1 + f) fC fdC ["block"] (spCountP K f)) (bC : Binds K fdC ["block"] []) (mC : mg "count_statements" = some (.ref fC)) : FnOk P w K mg base CX0 (1 + f + 1) fC fdC ["block"] (spCountD K f) := by
  refine F.ok scCount (fun vs H Q E h => ?_) (fun cdv A outer s H vs Q E hr h => ?_)
  · obtain ⟨v, d, rfl, _⟩ := h
    rfl
  · obtain ⟨v, d, rfl, r, hg, k⟩ := h
    have hr1 : Room 1 _ := hr.mono (by omega)
    obtain ⟨l, rfl, ll, good⟩ := good_inv hg
    obtain ⟨B, xs, rfl, hB, ra⟩ := r.tup_inv
    have hl := ra.len
    refine ⟨_, pss_one (ps_ret (pe_callB (cr_sum rfl) (by rfl) T.sum boot_sumO (pa_cons
        (pe_lc (own := [("item", 1)]) (g := gName 1) (tt := tYes) rfl scCount.nd (pi_tup (pv 0)) (blkOk_by (N := nCo) (sc := defScope sCount) (by decide +kernel)) (fun _ _ _ _ _ => pg_name (i := 1) scCount.nd rfl (Or.inl rfl)) (fun _ _ _ _ _ => pts_nil)
          (fun s1 H1 C1 cl1 fp1 => pe_op op_add pe_int (pe_callB (r := rSum K) (cr_sum rfl) (by rfl) T.sum boot_sumO (by exact (pa_cons
             (pe_lc (wi := iList K (tCall (spBlocks K) [] E0 (tCons (tVar 1) tNil))) (own := [("inner", 2)]) (g := gName 2) (tt := tYes) (te := tCall (spCountP K f) [] E0 (tCons (tVar 2) tNil)) rfl scCount.nd
               (by exact (pi_list (pe_call GB hr1 (by rfl) mB kB bB .nil pass0 (pa_cons (pv 1) pa_nil))))
               (blkOk_by (N := nCo) (by rfl))
               (fun _ _ _ _ _ => pg_name (i := 2) scCount.nd rfl (Or.inl rfl)) (fun _ _ _ _ _ => pts_nil) (fun _ _ _ _ _ => by exact (pe_call GP hr (by rfl) mC F.kp bC .nil pass0 (pa_cons (pv 2) pa_nil)))) pa_nil))))) pa_nil))), ?_⟩
    refine ⟨_, rfl, B, rfl, ⟨_, SqT.of hB⟩, fun D hD => lc_it (walk_tup (xs := xs)) (fun i H' => Same H H' ∧ H' D = some (.lst (intsV ((l.map fun d => 1 + ((blocksB d).map (countR f)).sum).take i)))) ⟨Same.new hD, upd_same⟩ (fun i H' _ q => SqT.of (q.1 _ _ hB)) ?_ ?_⟩
    · rintro i x H1 H2 hi ⟨s1, d1⟩ ⟨e2, ex⟩
      subst e2
      have li : i < l.length := by rw [← hl]; exact hi
      obtain ⟨vi, ev, rv⟩ := ra.get (i := i) (d := l[i]) (List.getElem?_eq_getElem li)
      obtain rfl := Option.some.inj (ev.symm.trans ex)
      obtain ⟨hs, hin⟩ := good _ (List.getElem_mem li)
      obtain ⟨bk, b4⟩ := blocks_ok hs
      have lc : (l.map fun d => 1 + ((blocksB d).map (countR f)).sum)[i]? = some (1 + ((blocksB l[i]).map (countR f)).sum) := by rw [List.getElem?_map, List.getElem?_eq_getElem li]; rfl
      refine ⟨rfl, _, rfl, vi, l[i], rfl, rv.keep s1, hs, fun L H4 ys h4 nL eL rb => ⟨L, rfl, ⟨_, SqL.of eL⟩, fun D2 hD2 => lc_it (te := tCall (spCountP K f) [] E0 (tCons (tVar 2) tNil)) (g := gName 2) (tt := tYes) (vs := [2]) (walk_list (xs := ys)) (fun j H' => Same H4 H' ∧ H' D2 = some (.lst (intsV (((blocksB l[i]).map (countR f)).take j)))) ⟨Same.new hD2, upd_same⟩ (fun j H' _ q => SqL.of (q.1 _ _ eL)) ?_ ?_⟩⟩
      · rintro j x Ha Hb hj ⟨sa, da⟩ ⟨e, exj⟩
        subst e
        have lj : j < (blocksB l[i]).length := by rw [← rb.len]; exact hj
        obtain ⟨vb, evb, rvb⟩ := rb.get (i := j) (d := (blocksB l[i])[j]) (List.getElem?_eq_getElem lj)
        obtain rfl := Option.some.inj (evb.symm.trans exj)
        have gb := hin _ (List.getElem_mem lj)
        have lcj : ((blocksB l[i]).map (countR f))[j]? = some (countR f (blocksB l[i])[j]) := by rw [List.getElem?_map, List.getElem?_eq_getElem lj]; rfl
        match f, GP, gb, lcj, da with
        | f' + 1, _, gb, lcj, da =>
        refine ⟨rfl, _, rfl, vb, (blocksB l[i])[j], rfl, rvb.keep sa, gb, fun Hc sc => ⟨_, sc _ _ da, ?_, fun b o e => ?_, ?_⟩⟩
        · rw [List.length_map, List.length_map, List.length_take, List.length_map]
          exact Nat.lt_of_le_of_lt (Nat.min_le_right _ _) (Nat.lt_of_le_of_lt b4 (by decide))
        · rw [upd_ne (ne_of_none e hD2)]
          exact sc _ _ (sa _ _ e)
        · rw [upd_same, ints_take lcj]
      · rintro H5 ⟨s5, d5⟩
        rw [show ((blocksB l[i]).map (countR f)).take ys.length = (blocksB l[i]).map (countR f) by rw [List.take_of_length_le]; rw [List.length_map, rb.len]; exact Nat.le_refl _] at d5
        refine ⟨D2, _, rfl, SqL.of d5, _, _, rfl, rfl, _, s5 _ _ (h4 _ _ d1), ?_, fun b o e => ?_, ?_⟩
        · rw [List.length_map, List.length_map, List.length_take, List.length_map]
          exact Nat.lt_of_le_of_lt (Nat.min_le_right _ _) (Nat.lt_of_le_of_lt ll (by decide))
        · rw [upd_ne (ne_of_none e hD)]
          exact s5 _ _ (h4 _ _ (s1 _ _ e))
        · rw [upd_same, ints_take lc, sum_cast]
          rfl
    · rintro H5 ⟨s5, d5⟩
      rw [show (l.map fun d => 1 + ((blocksB d).map (countR f)).sum).take xs.length = l.map fun d => 1 + ((blocksB d).map (countR f)).sum by rw [List.take_of_length_le]; rw [List.length_map, hl]; exact Nat.le_refl _] at d5
      refine ⟨D, _, rfl, SqL.of d5, ?_⟩
      have k5 := k H5 s5
      rw [sum_cast]
      exact k5
theorem ok_countD {fC fB : Addr} {fdC fdB : FuncData} (F : Fun K "count_statements" "count_statements" sCount fC fdC) (T : TxtP mg)
    (GB : FnOk P w K mg base CX0 1 fB fdB ["statement"] (spBlocks K)) (kB : PySem.W.keepIn K (.ref fB) = true) (bB : Binds K fdB ["statement"] []) (mB : mg "blocks_of" = some (.ref fB))
    (bC : Binds K fdC ["block"] []) (mC : mg "count_statements" = some (.ref fC)) : ∀ f, FnOk P w K mg base CX0 (2 + f) fC fdC ["block"] (spCountD K f)
  | 0 => (count_step (f := 0) F T GB kB bB mB never_ok bC mC).mono (by omega)
  | f + 1 => (count_step (f := f + 1) F T GB kB bB mB ((ok_countD F T GB kB bB mB bC mC f).mono (by omega)) bC mC).mono (by omega)
end
end Oh
namespace Oh
open PySem PySem.Spec PyProof.Rows L2 PpSet
abbrev OPath := Option (List Nat)
abbrev LRow := List Nat × DT × OPath
def layBlocks (rec : DT → List Nat → OPath → OPath → List LRow) (here : List Nat) (fol out : OPath) (rp : Bool) : List DT → Nat → List LRow
  | [], _ => []
  | b :: bs, j => (if rp = true then rec b (here ++ [j]) (some (here ++ [j] ++ [0])) fol else rec b (here ++ [j]) fol out) ++ layBlocks rec here fol out rp bs (j + 1)
def folB (m : Nat) (path : List Nat) (behind : OPath) (i : Nat) : OPath := if i + 1 < m then some (path ++ [i + 1]) else behind
def layItems (rec : DT → List Nat → OPath → OPath → List LRow) (m : Nat) (path : List Nat) (behind out : OPath) : List DT → Nat → List LRow
  | [], _ => []
  | d :: ds, i => (path ++ [i], d, if headB d = "leave" then out else folB m path behind i) :: (layBlocks rec (path ++ [i]) (folB m path behind i) out (decide (headB d = "repeat")) (blocksB d) 0 ++ layItems rec m path behind out ds (i + 1))
def layR : Nat → DT → List Nat → OPath → OPath → List LRow
  | 0 => fun _ _ _ _ => []
  | f + 1 => fun b path behind out => layItems (layR f) (listB b).length path behind out (listB b) 0
theorem layBlocks_len {rec : DT → List Nat → OPath → OPath → List LRow} {c : DT → Nat} (h : ∀ d p a b, (rec d p a b).length = c d) {here : List Nat} {fol out : OPath} {rp : Bool} : ∀ (bs : List DT) (j : Nat), (layBlocks rec here fol out rp bs j).length = (bs.map c).sum
  | [], _ => rfl
  | b :: bs, j => by
    unfold layBlocks
    rw [List.length_append, layBlocks_len h bs (j + 1), List.map_cons, List.sum_cons]
    cases rp
    · rw [if_neg (by decide), h]
    · rw [if_pos rfl, h]
theorem layItems_len {rec : DT → List Nat → OPath → OPath → List LRow} {c : DT → Nat} (h : ∀ d p a b, (rec d p a b).length = c d) {m : Nat} {path : List Nat} {behind out : OPath} : ∀ (ds : List DT) (i : Nat), (layItems rec m path behind out ds i).length = (ds.map fun d => 1 + ((blocksB d).map c).sum).sum
  | [], _ => rfl
  | d :: ds, i => by
    unfold layItems
    rw [List.length_cons, List.length_append, layBlocks_len h, layItems_len h ds (i + 1), List.map_cons, List.sum_cons]
    omega
theorem lay_len : ∀ (f : Nat) (d : DT) (path : List Nat) (a b : OPath), (layR f d path a b).length = countR f d
  | 0, _, _, _, _ => rfl
  | f + 1, d, path, a, b => layItems_len (lay_len f) (listB d) 0
/-- one row, and the rows -/
def RowAt (K : PySem.W.Frag) (H : Hp) (v : V) (r : LRow) : Prop := ∃ (R T : Addr) (vS vF : V), v = .ref R ∧ H R = some (.tup [.ref T, vS, vF]) ∧ H T = some (.tup (pathV r.1)) ∧ Rp K H vS r.2.1 ∧ PathOr H vF r.2.2
def RowsAt (K : PySem.W.Frag) (H : Hp) (vs : List V) (rs : List LRow) : Prop := Paired (RowAt K H) vs rs
theorem PathOr.keep {H H' : Hp} (s : Same H H') {v : V} {o : OPath} (h : PathOr H v o) : PathOr H' v o := by
  cases o with
  | none => exact h
  | some w =>
    obtain ⟨p, e, hp⟩ := h
    exact ⟨p, e, s _ _ hp⟩
theorem RowAt.keep {K : PySem.W.Frag} {H H' : Hp} (s : Same H H') {v : V} {r : LRow} (h : RowAt K H v r) : RowAt K H' v r := by
  obtain ⟨R, T, vS, vF, e, h1, h2, h3, h4⟩ := h
  exact ⟨R, T, vS, vF, e, s _ _ h1, s _ _ h2, h3.keep s, h4.keep s⟩
theorem RowsAt.keep {K : PySem.W.Frag} {H H' : Hp} (s : Same H H') : ∀ {vs : List V} {rs : List LRow}, RowsAt K H vs rs → RowsAt K H' vs rs
  | _, _, .nil => .nil
  | _, _, .cons h t => .cons (RowAt.keep s h) (RowsAt.keep s t)
theorem RowsAt.append {K : PySem.W.Frag} {H : Hp} : ∀ {vs ws : List V} {rs qs : List LRow}, RowsAt K H vs rs → RowsAt K H ws qs → RowsAt K H (vs ++ ws) (rs ++ qs)
  | _, _, _, _, .nil, h => h
  | _, _, _, _, .cons h t, z => .cons h (RowsAt.append t z)
theorem RowsAt.len {K : PySem.W.Frag} {H : Hp} {vs : List V} {rs : List LRow} (h : RowsAt K H vs rs) : vs.length = rs.length := Paired.length h
/-- a list gets other items -/
theorem upd_lst_ne {H : Hp} {L p : Addr} {xs : List V} {o : HO} {z : HO} (hL : H L = some (.lst xs)) (hp : H p = some o) (ne : ∀ ys, o ≠ .lst ys) : upd H L z p = some o := by
  have h : p ≠ L := fun e => by
    subst e
    exact ne xs (Option.some.inj (hp.symm.trans hL))
  rw [upd_ne h]
  exact hp
mutual
theorem Rp.updL {K : PySem.W.Frag} {H : Hp} {L : Addr} {xs ys : List V} (hL : H L = some (.lst xs)) : ∀ {v : V} {d : DT}, Rp K H v d → Rp K (upd H L (.lst ys)) v d
  | _, _, .non => .non
  | _, _, .bl b => .bl b
  | _, _, .int i => .int i
  | _, _, .str z => .str z
  | _, _, .tup e r => .tup (upd_lst_ne hL e (fun _ => nofun)) (RpAll.updL hL r)
  | _, _, .lst (p := p) (xs := zs) e => by
    by_cases h : p = L
    · subst h
      exact .lst upd_same
    · exact .lst (by rw [upd_ne h]; exact e)
  | _, _, .dct e => .dct (upd_lst_ne hL e (fun _ => nofun))
  | _, _, .ins e c => .ins (upd_lst_ne hL e (fun _ => nofun)) c
theorem RpAll.updL {K : PySem.W.Frag} {H : Hp} {L : Addr} {xs ys : List V} (hL : H L = some (.lst xs)) : ∀ {vs : List V} {ds : List DT}, RpAll K H vs ds → RpAll K (upd H L (.lst ys)) vs ds
  | _, _, .nil => .nil
  | _, _, .cons h t => .cons (Rp.updL hL h) (RpAll.updL hL t)
end
theorem PathOr.updL {H : Hp} {L : Addr} {xs ys : List V} (hL : H L = some (.lst xs)) {v : V} {o : OPath} (h : PathOr H v o) : PathOr (upd H L (.lst ys)) v o := by
  cases o with
  | none => exact h
  | some w =>
    obtain ⟨p, e, hp⟩ := h
    exact ⟨p, e, upd_lst_ne hL hp (fun _ => nofun)⟩
theorem RowAt.updL {K : PySem.W.Frag} {H : Hp} {L : Addr} {xs ys : List V} (hL : H L = some (.lst xs)) {v : V} {r : LRow} (h : RowAt K H v r) : RowAt K (upd H L (.lst ys)) v r := by
  obtain ⟨R, T, vS, vF, e, h1, h2, h3, h4⟩ := h
  exact ⟨R, T, vS, vF, e, upd_lst_ne hL h1 (fun _ => nofun), upd_lst_ne hL h2 (fun _ => nofun), h3.updL hL, h4.updL hL⟩
theorem RowsAt.updL {K : PySem.W.Frag} {H : Hp} {L : Addr} {xs ys : List V} (hL : H L = some (.lst xs)) : ∀ {vs : List V} {rs : List LRow}, RowsAt K H vs rs → RowsAt K (upd H L (.lst ys)) vs rs
  | _, _, .nil => .nil
  | _, _, .cons h t => .cons (RowAt.updL hL h) (RowsAt.updL hL t)
def spLay (K : PySem.W.Frag) (f : Nat) : Sp := fun vs H Q _ => ∃ (v : V) (d : DT) (p : Addr) (vb vo : V) (path : List Nat) (behind out : OPath), vs = [v, .ref p, vb, vo] ∧ Rp K H v d ∧ goodB f d = true ∧ H p = some (.tup (pathV path)) ∧ path.length + 2 * f ≤ 100 ∧ countB f d ≤ 10000 ∧ PathOr H vb behind ∧ PathOr H vo out ∧
  ∀ L H' ys, Same H H' → H L = none → H' L = some (.lst ys) → RowsAt K H' ys (layR (f + 1) d path behind out) → Q (.ref L) H'
def spLayP (K : PySem.W.Frag) : Nat → Sp
  | 0 => fun _ _ _ _ => False
  | f + 1 => spLay K f
end Oh
namespace Oh
open PySem PySem.Spec PyProof.Rows L2 PpSet
section
variable {P : Program} {w : World} {K : PySem.W.Frag} {mg : Str → Option Value} {base : Heap} {kw pk ck : Addr}
theorem lay_step {f : Nat} {fL fB : Addr} {fdL fdB : FuncData} (F : Fun K "laid_out" "laid_out" sLaid fL fdL) (T : TxtP mg)
    (GB : FnOk P w K mg base CX0 1 fB fdB ["statement"] (spBlocks K)) (kB : PySem.W.keepIn K (.ref fB) = true) (bB : Binds K fdB ["statement"] []) (mB : mg "blocks_of" = some (.ref fB))
    (GP : FnOk P w K mg base CX0 (1 + f) fL fdL ["block", "path", "behind", "outside"] (spLayP K f)) (bL : Binds K fdL ["block", "path", "behind", "outside"] []) (mL : mg "laid_out" = some (.ref fL)) :
    FnOk P w K mg base CX0 (1 + f + 1) fL fdL ["block", "path", "behind", "outside"] (spLay K f) := by
  refine F.ok scLaid (fun vs H Q E h => ?_) (fun cdv A outer s H vs Q E hr h => ?_)
  · obtain ⟨v, d, p, vb, vo, path, behind, out, rfl, _⟩ := h
    rfl
  · obtain ⟨v, d, p, vb, vo, path, behind, out, rfl, r, hg, hp, small, big, pb, po, k⟩ := h
    have hr1 : Room 1 _ := hr.mono (by omega)
    obtain ⟨l, rfl, ll, good⟩ := good_inv hg
    obtain ⟨B, xs, rfl, hB, ra⟩ := r.tup_inv
    have hl := ra.len
    generalize hfull : layR (f + 1) (.tup l) path behind out = full at k
    have hlen : full.length ≤ 10000 := by
      rw [← hfull, lay_len]
      exact big
    refine ⟨_, pss_cons (ps_set (i := 4) scLaid.nd rfl (Or.inl rfl) (pe_lst pa_nil))
      (pss_cons (ps_for PassesOwn.never rfl (pi_enumT (by rfl) T.enum (pa_cons (pv 0) pa_nil)) (pg_tup rfl (pgs_cons (pg_name (i := 5) scLaid.nd rfl (Or.inl rfl)) (pgs_cons (pg_name (i := 6) scLaid.nd rfl (Or.inl rfl)) pgs_nil)))
        (pss_cons (ps_set (i := 7) scLaid.nd rfl (Or.inl rfl) (pe_op op_catA (pv 1) (pe_tup (pa_cons (pv 5) pa_nil))))
        (pss_cons (ps_set (i := 8) scLaid.nd rfl (Or.inl rfl) (pe_ifExp (pt_cmpR op_lt (pe_op op_add (pv 5) pe_int) (pe_callB call_len_seq (by rfl) T.len boot_len (pa_cons (pv 0) pa_nil)) (nomark _)) (pe_op op_catA (pv 1) (pe_tup (pa_cons (pe_op op_add (pv 5) pe_int) pa_nil))) (pv 2)))
        (pss_cons (ps_expr (pe_bm PySem.F.plainAttrs_list PySem.F.slot_list_append PySem.F.type_list_append mt_append (pv 4)
            (pa_cons (pe_tup (pa_cons (pv 7) (pa_cons (pv 6) (pa_cons (pe_ifExp (pt_cmpR op_eq (pe_ix ix_tup (pv 6) pe_int (fun _ _ => rfl)) pe_str (nomark _)) (pv 3) (pv 8)) pa_nil)))) pa_nil)))
        (pss_one (ps_for PassesOwn.never rfl (pi_enum (by rfl) T.enum (pa_cons (pe_call GB hr1 (by rfl) mB kB bB .nil pass0 (pa_cons (pv 6) pa_nil)) pa_nil)) (pg_tup rfl (pgs_cons (pg_name (i := 9) scLaid.nd rfl (Or.inl rfl)) (pgs_cons (pg_name (i := 10) scLaid.nd rfl (Or.inl rfl)) pgs_nil)))
          (pss_cons (ps_set (i := 11) scLaid.nd rfl (Or.inl rfl) (pe_op op_catA (pv 7) (pe_tup (pa_cons (pv 9) pa_nil))))
          (pss_one (ps_if (pt_cmpR op_eq (pe_ix ix_tup (pv 6) pe_int (fun _ _ => rfl)) pe_str (nomark _))
            (pss_one (ps_expr (pe_bm PySem.F.plainAttrs_list PySem.F.slot_list_extend PySem.F.type_list_extend mt_extend (pv 4) (pa_cons (pe_call GP hr (by rfl) mL F.kp bL .nil pass0 (pa_cons (pv 10) (pa_cons (pv 11) (pa_cons (pe_op op_catA (pv 11) (pe_tup (pa_cons pe_int pa_nil))) (pa_cons (pv 8) pa_nil))))) pa_nil))))
            (pss_one (ps_expr (pe_bm PySem.F.plainAttrs_list PySem.F.slot_list_extend PySem.F.type_list_extend mt_extend (pv 4) (pa_cons (pe_call GP hr (by rfl) mL F.kp bL .nil pass0 (pa_cons (pv 10) (pa_cons (pv 11) (pa_cons (pv 8) (pa_cons (pv 3) pa_nil))))) pa_nil)))))))))))))
      (pss_one (ps_ret (pv 4)))), ?_⟩
    refine ⟨by decide, fun L nL => ?_⟩
    refine ⟨_, rfl, B, xs, rfl, SqT.of ((Same.new nL) _ _ hB), for_it (walk_enumT (xs := xs)) (fun i σ H' => (∃ x, σ = [some (.ref B), some (.ref p), some vb, some vo, some (.ref L)] ++ x ∧ x.length = 7) ∧ Same H H' ∧ ∃ ys done, H' L = some (.lst ys) ∧ RowsAt K H' ys done ∧ done ++ layItems (layR f) l.length path behind out (l.drop i) i = full)
      ⟨⟨_, rfl, rfl⟩, Same.new nL, [], [], upd_same, .nil, hfull⟩ ?_ ?_ ?_⟩
    · rintro i σ H' _ ⟨_, s', _⟩
      exact SqT.of (s' _ _ hB)
    · rintro i x σ H1 H2 hi ⟨⟨z, ez, hz⟩, s1, ys, done, hL, rows, e⟩ ⟨Tp, x1, x2, rfl, nT, rfl, e1, e2⟩
      obtain rfl := Option.some.inj e1
      have li : i < l.length := by rw [← hl]; exact hi
      obtain ⟨vi, ev, rv⟩ := ra.get (i := i) (d := l[i]) (List.getElem?_eq_getElem li)
      obtain rfl := Option.some.inj (ev.symm.trans e2)
      have dr : l.drop i = l[i] :: l.drop (i + 1) := List.drop_eq_getElem_cons li
      rw [dr] at e
      obtain ⟨hs, hin⟩ := good _ (List.getElem_mem li)
      generalize l[i] = d at e rv hs hin
      obtain ⟨bk, b4⟩ := blocks_ok hs
      obtain ⟨g', l', _, _, el⟩ := stmt_inv hs
      obtain ⟨pi, xi, rfl, hpi, rai⟩ := (el ▸ rv : Rp K H vi (.tup (.str (headB d) :: l'))).tup_inv
      obtain ⟨v0, x0, r0⟩ := rai.get (i := 0) rfl
      cases r0
      subst ez
      match z, hz with
      | [z0, z1, z2, z3, z4, z5, z6], _ =>
      have s2 : Same H1 (upd H1 Tp (.tup [.int (i : Nat), .ref pi])) := Same.new nT
      refine ⟨Tp, _, rfl, SqT.of upd_same, rfl, _, _, rfl, _, _, rfl, rfl, ?_⟩
      refine ⟨_, rfl, _, rfl, (by show 1 ≤ sizeLine; decide), fun q nq => cat_path (path := path) (i := i) ((Same.new nq) _ _ (s2 _ _ (s1 _ _ hp))) upd_same (by omega) fun here H3 s3 hh => ?_⟩
      have s13 : Same H1 H3 := s2.trans ((Same.new nq).trans s3)
      have s03 := s1.trans s13
      refine ⟨_, rfl, _, _, rfl, rfl, _, rfl, B, xs, rfl, .inr (SqT.of (s03 _ _ hB)), _, _, rfl, rfl, _, rfl, ?_⟩
      -- the follower
      generalize hfol : folB l.length path behind i = fol at e
      by_cases c : i + 1 < l.length
      refine ite2 (fun _ => ?_) (fun z => absurd (decide_eq_true (show (i : Int) + 1 < xs.length by omega)) z)
      refine ⟨_, rfl, _, rfl, _, _, rfl, rfl, (by show 1 ≤ sizeLine; decide), fun q1 nq1 => cat_path (path := path) (i := i + 1) ((Same.new nq1) _ _ (s03 _ _ hp)) upd_same (by omega) fun vf Hf sf hf => ?_⟩
      obtain ⟨vF, hF⟩ : ∃ vF, vF = V.ref vf := ⟨_, rfl⟩
      have hvf : PathOr Hf vF fol := by rw [hF, ← hfol, folB, if_pos c]; exact ⟨vf, rfl, hf⟩
      have s1f : Same H1 Hf := s13.trans ((Same.new nq1).trans sf)
      have hhf : Hf here = some (.tup (pathV (path ++ [i]))) := sf _ _ ((Same.new nq1) _ _ hh)
      rotate_left
      refine ite2 (fun z => absurd (of_decide_eq_true z) (by omega)) fun _ => ?_
      refine ⟨_, rfl, ?_⟩
      obtain ⟨Hf, hHf⟩ : ∃ Hf, Hf = H3 := ⟨_, rfl⟩
      rw [← hHf]
      obtain ⟨vF, hF⟩ : ∃ vF, vF = vb := ⟨_, rfl⟩
      have hvf : PathOr Hf vF fol := by rw [hF, ← hfol, folB, if_neg c, hHf]; exact pb.keep s03
      have s1f : Same H1 Hf := hHf ▸ s13
      have hhf : Hf here = some (.tup (pathV (path ++ [i]))) := hHf ▸ hh
      rotate_left
      all_goals
        have s0f := s1.trans s1f
        have e' : done ++ ((path ++ [i], d, if headB d = "leave" then out else fol) :: (layBlocks (layR f) (path ++ [i]) fol out (decide (headB d = "repeat")) (blocksB d) 0 ++ layItems (layR f) l.length path behind out (l.drop (i + 1)) (i + 1))) = full := by
          rw [← hfol]
          exact e
        refine ⟨_, rfl, .inl ⟨rfl, _, SqL.of (s1f _ _ hL)⟩, ?_⟩
        refine ⟨_, rfl, _, rfl, _, rfl, pi, _, _, _, rfl, rfl, SqT.of (s0f _ _ hpi), at_of (j := 0) rfl x0, rfl, _, rfl, ?_⟩
        by_cases c2 : headB d = "leave"
        refine ite2 (fun _ => ?_) (fun z => absurd (decide_eq_true (by rw [c2])) z)
        refine ⟨_, rfl, (by show 3 ≤ sizeLine; decide), fun R nR => ?_⟩
        obtain ⟨vR, hR⟩ : ∃ vR, vR = vo := ⟨_, rfl⟩
        have hvr : PathOr Hf vR (if headB d = "leave" then out else fol) := by rw [hR, if_pos c2]; exact po.keep s0f
        rotate_left
        refine ite2 (fun z => absurd (V.str.inj (of_decide_eq_true z)) c2) fun _ => ?_
        refine ⟨_, rfl, (by show 3 ≤ sizeLine; decide), fun R nR => ?_⟩
        obtain ⟨vR, hR⟩ : ∃ vR, vR = vF := ⟨_, rfl⟩
        have hvr : PathOr Hf vR (if headB d = "leave" then out else fol) := by rw [hR, if_neg c2]; exact hvf
        rotate_left
        all_goals
          have sR : Same Hf (upd Hf R (.tup [.ref here, .ref pi, vR])) := Same.new nR
          have hLR : upd Hf R (.tup [.ref here, .ref pi, vR]) L = some (.lst ys) := sR _ _ (s1f _ _ hL)
          have rowsR : RowsAt K (upd Hf R (.tup [.ref here, .ref pi, vR])) (ys ++ [.ref R]) (done ++ [(path ++ [i], d, if headB d = "leave" then out else fol)]) :=
            (rows.keep (s1f.trans sR)).append (.cons ⟨R, here, .ref pi, vR, rfl, upd_same, sR _ _ hhf, rv.keep (s0f.trans sR), hvr.keep sR⟩ .nil)
          obtain ⟨HA, hHA⟩ : ∃ HA, HA = upd (upd Hf R (.tup [.ref here, .ref pi, vR])) L (.lst (ys ++ [.ref R])) := ⟨_, rfl⟩
          have hLA : HA L = some (.lst (ys ++ [.ref R])) := by rw [hHA]; exact upd_same
          have sA : Same H HA := fun b o eb => by rw [hHA, upd_ne (ne_of_none eb nL)]; exact sR _ _ (s0f _ _ eb)
          have rowsA : RowsAt K HA (ys ++ [.ref R]) (done ++ [(path ++ [i], d, if headB d = "leave" then out else fol)]) := by rw [hHA]; exact rowsR.updL hLR
          have hhA : HA here = some (.tup (pathV (path ++ [i]))) := by rw [hHA]; exact upd_lst_ne hLR (sR _ _ hhf) (fun _ => nofun)
          have hvA : PathOr HA vF fol := by rw [hHA]; exact (hvf.keep sR).updL hLR
          have eA : (done ++ [(path ++ [i], d, if headB d = "leave" then out else fol)]) ++ (layBlocks (layR f) (path ++ [i]) fol out (decide (headB d = "repeat")) (blocksB d) 0 ++ layItems (layR f) l.length path behind out (l.drop (i + 1)) (i + 1)) = full := by
            rw [List.append_assoc]
            exact e'
          have szA : ys.length < sizeLine := by
            have h1 := rows.len
            have h2 := congrArg List.length e'
            rw [List.length_append] at h2
            exact Nat.lt_of_le_of_lt (show ys.length ≤ 10000 by omega) (by decide)
          refine ⟨L, ys, _, rfl, rfl, (Same.new nR) _ _ (s1f _ _ hL), szA, ?_⟩
          first
            | rw [hR, hF] at hHA
            | rw [hR] at hHA
          rw [← hHA]
          refine ⟨_, rfl, _, d, rfl, rv.keep sA, hs, fun M H5 bs s5 nM hM rb => ⟨M, bs, rfl, SqL.of hM, for_it (walk_enum (xs := bs)) (fun j σ H' => (∃ x, σ = [some (.ref B), some (.ref p), some vb, some vo, some (.ref L), some (.int (i : Nat)), some (.ref pi), some (.ref here), some vF] ++ x ∧ x.length = 3) ∧ Same H H' ∧ H' M = some (.lst bs) ∧ H' here = some (.tup (pathV (path ++ [i]))) ∧ PathOr H' vF fol ∧ RpAll K H' bs (blocksB d) ∧
            ∃ ys done, H' L = some (.lst ys) ∧ RowsAt K H' ys done ∧ done ++ (layBlocks (layR f) (path ++ [i]) fol out (decide (headB d = "repeat")) ((blocksB d).drop j) j ++ layItems (layR f) l.length path behind out (l.drop (i + 1)) (i + 1)) = full)
            ⟨⟨_, (by rw [hF]; rfl), rfl⟩, sA.trans s5, hM, s5 _ _ hhA, hvA.keep s5, rb, _, _, s5 _ _ hLA, rowsA.keep s5, eA⟩ ?_ ?_ ?_⟩⟩
          · rintro j σ H' _ ⟨_, _, hM', _⟩
            exact SqL.of hM'
          · rintro j x σ H6 H7 hj ⟨⟨y, ey, hy⟩, s6, hM6, hh6, hv6, rb6, ys6, dn6, hL6, rows6, ej⟩ ⟨Tq, y1, y2, rfl, nTq, rfl, g1, g2⟩
            obtain rfl := Option.some.inj g1
            have lj : j < (blocksB d).length := by rw [← rb.len]; exact hj
            obtain ⟨vj, evb, rvb⟩ := rb6.get (i := j) (d := (blocksB d)[j]) (List.getElem?_eq_getElem lj)
            obtain rfl := Option.some.inj (evb.symm.trans g2)
            have drj : (blocksB d).drop j = (blocksB d)[j] :: (blocksB d).drop (j + 1) := List.drop_eq_getElem_cons lj
            rw [drj] at ej
            have gb := hin _ (List.getElem_mem lj)
            generalize (blocksB d)[j] = db at ej rvb gb
            have ML : M ≠ L := fun z => by
              subst z
              cases hLA.symm.trans nM
            obtain ⟨f', rfl⟩ : ∃ f', f = f' + 1 := by
              cases f with
              | zero => cases gb
              | succ f' => exact ⟨f', rfl⟩
            have lens := congrArg List.length ej
            rw [List.length_append, List.length_append, layBlocks_len (lay_len (f' + 1)), List.map_cons, List.sum_cons] at lens
            have big' : countB f' db ≤ 10000 := by
              show countR (f' + 1) db ≤ 10000
              omega
            have lr6 := rows6.len
            subst ey
            match y, hy with
            | [y0, y1, y2], _ =>
            have sq : Same H6 (upd H6 Tq (.tup [.int (j : Nat), vj])) := Same.new nTq
            refine ⟨Tq, _, rfl, SqT.of upd_same, rfl, _, _, rfl, _, _, rfl, rfl, ?_⟩
            refine ⟨_, rfl, _, rfl, (by show 1 ≤ sizeLine; decide), fun q2 nq2 => cat_path (path := path ++ [i]) (i := j) ((Same.new nq2) _ _ (sq _ _ hh6)) upd_same (by rw [List.length_append, List.length_singleton]; omega) fun st H8 s8 hst => ?_⟩
            have s68 : Same H6 H8 := sq.trans ((Same.new nq2).trans s8)
            have inv : ∀ (H10 : Hp) (zs : List V) (rs : List LRow), Same H8 H10 → RowsAt K H10 zs rs → rs.length = countR (f' + 1) db → layBlocks (layR (f' + 1)) (path ++ [i]) fol out (decide (headB d = "repeat")) (db :: (blocksB d).drop (j + 1)) j = rs ++ layBlocks (layR (f' + 1)) (path ++ [i]) fol out (decide (headB d = "repeat")) ((blocksB d).drop (j + 1)) (j + 1) →
                H10 L = some (.lst ys6) ∧ ys6.length + zs.length ≤ sizeLine ∧ Same H (upd H10 L (.lst (ys6 ++ zs))) ∧ upd H10 L (.lst (ys6 ++ zs)) M = some (.lst bs) ∧ upd H10 L (.lst (ys6 ++ zs)) here = some (.tup (pathV (path ++ [i]))) ∧ PathOr (upd H10 L (.lst (ys6 ++ zs))) vF fol ∧ RpAll K (upd H10 L (.lst (ys6 ++ zs))) bs (blocksB d) ∧
                ∃ ys done, upd H10 L (.lst (ys6 ++ zs)) L = some (.lst ys) ∧ RowsAt K (upd H10 L (.lst (ys6 ++ zs))) ys done ∧ done ++ (layBlocks (layR (f' + 1)) (path ++ [i]) fol out (decide (headB d = "repeat")) ((blocksB d).drop (j + 1)) (j + 1) ++ layItems (layR (f' + 1)) l.length path behind out (l.drop (i + 1)) (i + 1)) = full := by
              intro H10 zs rs s rows2 lrs er
              have s610 := s68.trans s
              have hL10 := s610 _ _ hL6
              have lz := rows2.len
              refine ⟨hL10, Nat.le_trans (show ys6.length + zs.length ≤ 10000 by omega) (by decide), fun b o eb => ?_, ?_, upd_lst_ne hL10 (s610 _ _ hh6) (fun _ => nofun), (hv6.keep s610).updL hL10, (rb6.keep s610).updL hL10, _, _, upd_same, ((rows6.keep s610).append rows2).updL hL10, ?_⟩
              · rw [upd_ne (ne_of_none eb nL)]
                exact s610 _ _ (s6 _ _ eb)
              · rw [upd_ne ML]
                exact s610 _ _ hM6
              · rw [er] at ej
                rw [List.append_assoc, ← List.append_assoc rs]
                exact ej
            refine ⟨_, rfl, pi, _, _, _, rfl, rfl, SqT.of (s68 _ _ (s6 _ _ hpi)), at_of (j := 0) rfl x0, rfl, _, rfl, ?_⟩
            have sm : (path ++ [i] ++ [j]).length + 2 * f' ≤ 100 := by
              rw [List.length_append, List.length_append, List.length_singleton, List.length_singleton]
              omega
            by_cases c5 : headB d = "repeat"
            · refine ite2 (fun _ => ?_) (fun z => absurd (decide_eq_true (by rw [c5])) z)
              refine ⟨_, rfl, .inl ⟨rfl, _, SqL.of (s68 _ _ hL6)⟩, _, rfl, _, rfl, _, rfl, (by show 1 ≤ sizeLine; decide), fun q3 nq3 => cat_path (path := path ++ [i] ++ [j]) (i := 0) ((Same.new nq3) _ _ hst) upd_same (by omega) fun st0 H9 s9 hst0 => ?_⟩
              have s89 : Same H8 H9 := (Same.new nq3).trans s9
              have s69 := s68.trans s89
              refine ⟨_, rfl, vj, db, st, .ref st0, vF, path ++ [i] ++ [j], some (path ++ [i] ++ [j] ++ [0]), fol, rfl, rvb.keep s69, gb, s89 _ _ hst, sm, big', ⟨st0, rfl, hst0⟩, hv6.keep s69, fun L2 H10 zs s10 nL2 hL2 rows2 => ?_⟩
              obtain ⟨i1, i2, i3⟩ := inv H10 zs _ (s89.trans s10) rows2 (lay_len _ _ _ _ _) (by
                show (if decide (headB d = "repeat") = true then _ else _) ++ _ = _
                rw [if_pos (decide_eq_true c5)])
              exact ⟨L, L2, ys6, zs, rfl, rfl, i1, hL2, i2, ⟨_, rfl, rfl⟩, i3⟩
            · refine ite2 (fun z => absurd (V.str.inj (of_decide_eq_true z)) c5) fun _ => ?_
              refine ⟨_, rfl, .inl ⟨rfl, _, SqL.of (s68 _ _ hL6)⟩, _, rfl, _, rfl, _, rfl, _, rfl, vj, db, st, vF, vo, path ++ [i] ++ [j], fol, out, rfl, rvb.keep s68, gb, hst, sm, big', hv6.keep s68, po.keep (s6.trans s68), fun L2 H10 zs s10 nL2 hL2 rows2 => ?_⟩
              obtain ⟨i1, i2, i3⟩ := inv H10 zs _ s10 rows2 (lay_len _ _ _ _ _) (by
                show (if decide (headB d = "repeat") = true then _ else _) ++ _ = _
                rw [if_neg (by simpa using c5)])
              exact ⟨L, L2, ys6, zs, rfl, rfl, i1, hL2, i2, ⟨_, rfl, rfl⟩, i3⟩
          · rintro σ H' ⟨⟨x, ex, hx⟩, s', _, _, _, _, ys', done', hL', rows', ej⟩
            rw [show (blocksB d).drop bs.length = [] by rw [rb.len]; exact List.drop_length] at ej
            exact ⟨⟨[some (.int (i : Nat)), some (.ref pi), some (.ref here), some vF] ++ x, by rw [ex]; rfl, by rw [List.length_append, hx]; rfl⟩, s', ys', done', hL', rows', ej⟩
    · rintro σ H1 ⟨⟨x, ex, hx⟩, s1, ys, done, hL, rows, e⟩
      rw [show l.drop xs.length = [] by rw [hl]; exact List.drop_length] at e
      subst ex
      have e : done = full := by
        have h : done ++ [] = full := e
        rw [List.append_nil] at h
        exact h
      exact ⟨_, rfl, k L H1 ys s1 nL hL (e ▸ rows)⟩
end
end Oh
namespace Oh
open PySem PySem.Spec PyProof.Rows L2 PpSet
abbrev sNamesIn : Stmt := top 29
abbrev sNames : Stmt := top 28
abbrev sPorts : Stmt := top 30
def strB (d : DT) : Str := match d with
  | .str s => s
  | _ => ""
def portsB (d : DT) : List Str := if headB d = "tell" ∨ headB d = "hear" then [strB (argB d 1)] else if headB d = "wait" then (listB (argB d 1)).map portB else []
/-- a new list of texts -/
def spStrs (K : PySem.W.Frag) (g : DT → List Str) : Sp := fun vs H Q _ => ∃ v d, vs = [v] ∧ Rp K H v d ∧ stmtB d = true ∧ ∀ p H', Same H H' → H p = none → H' p = some (.lst ((g d).map V.str)) → Q (.ref p) H'
theorem name_inv {K : PySem.W.Frag} {H : Hp} {v : V} {d : DT} (r : Rp K H v d) (h : nameB d = true) : v = .str (strB d) := by
  cases r with
  | str _ => rfl
  | _ => cases h
theorem tell_len {d : DT} (h : stmtB d = true) (e : headB d = "set" ∨ headB d = "tell") : lenB d = 3 ∧ nameB (argB d 1) = true ∧ exprB 4 (argB d 2) = true := by
  obtain ⟨g, l, k, z, _⟩ := stmt_inv h
  have kg : some setTellB = some g := by
    rcases e with e | e <;> (rw [e] at k; exact k)
  obtain rfl := Option.some.inj kg
  obtain ⟨h1, z⟩ := Bool.and_eq_true_iff.mp z
  obtain ⟨h2, h3⟩ := Bool.and_eq_true_iff.mp z
  exact ⟨beq_iff_eq.mp h1, h2, h3⟩
theorem hear_len {d : DT} (h : stmtB d = true) (e : headB d = "hear") : lenB d = 3 ∧ nameB (argB d 1) = true ∧ nameB (argB d 2) = true := by
  obtain ⟨g, l, k, z, _⟩ := stmt_inv h
  rw [e] at k
  obtain rfl := Option.some.inj (show some hearB = some g from k)
  obtain ⟨h1, z⟩ := Bool.and_eq_true_iff.mp z
  obtain ⟨h2, h3⟩ := Bool.and_eq_true_iff.mp z
  exact ⟨beq_iff_eq.mp h1, h2, h3⟩
theorem row_names {r : DT} (h : rowB r = true) : nameB (argB r 0) = true ∧ nameB (argB r 1) = true := by
  obtain ⟨_, h⟩ := Bool.and_eq_true_iff.mp h
  obtain ⟨h2, h⟩ := Bool.and_eq_true_iff.mp h
  exact ⟨h2, (Bool.and_eq_true_iff.mp h).1⟩
section
variable {P : Program} {w : World} {K : PySem.W.Frag} {mg : Str → Option Value} {base : Heap} {kw pk ck : Addr}
theorem scPorts : FnScope nBl ["statement"] (defScope sPorts) := ⟨rfl, rfl, rfl, by decide +kernel, rfl, by decide +kernel, by decide +kernel⟩
theorem ok_portsD {f : Addr} {fd : FuncData} (F : Fun K "ports_of" "ports_of" sPorts f fd) : FnOk P w K mg base CX0 1 f fd ["statement"] (spStrs K portsB) := by
  refine F.ok scPorts (fun vs H Q E h => ?_) (fun cdv A outer s H vs Q E hr h => ?_)
  · obtain ⟨v, d, rfl, _⟩ := h
    rfl
  · obtain ⟨v, d, rfl, r, hs, k⟩ := h
    obtain ⟨g, l, hk, hg, el⟩ := stmt_inv hs
    obtain ⟨p, xs, rfl, hp, ra⟩ := (el ▸ r : Rp K H v (.tup (.str (headB d) :: l))).tup_inv
    have hl := ra.len
    have ll := len_of el
    obtain ⟨v0, x0, r0⟩ := ra.get (i := 0) rfl
    cases r0
    have ge : ∀ {a b : Str}, a ≠ b → ¬ decide (V.str a = V.str b) = true := fun h z => h (V.str.inj (of_decide_eq_true z))
    refine ⟨_, pss_cons (ps_set (i := 1) scPorts.nd rfl (Or.inl rfl) (pe_ix ix_tup (pv 0) pe_int (fun _ _ => rfl)))
      (pss_cons (ps_if (pw_or (pt_cmpR op_eq (pv 1) pe_str (nomark _)) (pw_or1 (pt_cmpR op_eq (pv 1) pe_str (nomark _)))).pt (pss_one (ps_ret (pe_lst (pa_cons (pe_ix ix_tup (pv 0) pe_int (fun _ _ => rfl)) pa_nil)))) pss_nil)
      (pss_cons (ps_if (pt_cmpR op_eq (pv 1) pe_str (nomark _)) (pss_one (ps_ret
          (pe_lc (own := [("row", 2)]) (g := gName 2) (tt := tYes) (te := tOp (rIxT K) (tVar 2) (tC (.int 0))) rfl scPorts.nd (pi_tup (pe_ix ix_tup (pv 0) pe_int (fun _ _ => rfl))) (blkOk_by (N := nBl) (sc := defScope sPorts) (by decide +kernel)) (fun _ _ _ _ _ => pg_name (i := 2) scPorts.nd rfl (Or.inl rfl)) (fun _ _ _ _ _ => pts_nil)
            (fun _ _ _ _ _ => pe_ix ix_tup (pv 2) pe_int (fun _ _ => rfl))))) pss_nil)
      (pss_one (ps_ret (pe_lst pa_nil))))), ?_⟩
    refine ⟨_, rfl, p, _, _, _, rfl, rfl, SqT.of hp, at_of (j := 0) rfl x0, ?_⟩
    have one : (headB d = "tell" ∨ headB d = "hear") → ∃ v1, xs[1]? = some v1 ∧ v1 = .str (strB (argB d 1)) := fun c => by
      have hh : lenB d = 3 ∧ nameB (argB d 1) = true := by
        rcases c with c | c
        · exact ⟨(tell_len hs (.inr c)).1, (tell_len hs (.inr c)).2.1⟩
        · exact ⟨(hear_len hs c).1, (hear_len hs c).2.1⟩
      obtain ⟨v1, x1, r1⟩ := arg_at (i := 1) ra (by rw [← ll, hh.1]; decide)
      rw [← el] at r1
      exact ⟨v1, x1, name_inv r1 hh.2⟩
    by_cases c : headB d = "tell" ∨ headB d = "hear"
    · obtain ⟨v1, x1, rfl⟩ := one c
      have hb : portsB d = [strB (argB d 1)] := by unfold portsB; rw [if_pos c]
      rw [hb] at k
      rcases c with c | c
      · refine ⟨_, rfl, rfl, _, rfl, ite2 (fun _ => ?_) (fun z => absurd (decide_eq_true (by rw [c])) z)⟩
        exact ⟨_, rfl, p, _, _, _, rfl, rfl, SqT.of hp, at_of (j := 1) rfl x1, (by show 1 ≤ sizeLine; decide), fun q nq => k q _ (Same.new nq) nq upd_same⟩
      · refine ⟨_, rfl, rfl, _, rfl, ite2 (fun z => absurd z (ge (by rw [c]; decide))) fun _ => ⟨_, rfl, rfl, _, rfl, ite2 (fun _ => ?_) (fun z => absurd (decide_eq_true (by rw [c])) z)⟩⟩
        exact ⟨_, rfl, p, _, _, _, rfl, rfl, SqT.of hp, at_of (j := 1) rfl x1, (by show 1 ≤ sizeLine; decide), fun q nq => k q _ (Same.new nq) nq upd_same⟩
    refine ⟨_, rfl, rfl, _, rfl, ite2 (fun z => absurd z (ge fun y => c (.inl y))) fun _ => ⟨_, rfl, rfl, _, rfl, ite2 (fun z => absurd z (ge fun y => c (.inr y))) fun _ => ?_⟩⟩
    refine ⟨_, rfl, rfl, _, rfl, ?_⟩
    by_cases c4 : headB d = "wait"
    · refine ite2 (fun _ => ?_) (fun z => absurd (decide_eq_true (by rw [c4])) z)
      have hb : portsB d = (listB (argB d 1)).map portB := by unfold portsB; rw [if_neg c, if_pos c4]
      obtain ⟨z1, z2, z3, _⟩ := wait_len hs c4
      rw [hb] at k
      obtain ⟨v1, x1, r1⟩ := arg_at (i := 1) ra (by rw [← ll, z1]; decide)
      rw [← el] at r1
      obtain ⟨m, em, lm⟩ := choice_inv z2
      rw [em] at r1 k z3
      obtain ⟨q1, ys, rfl, hq1, rm⟩ := r1.tup_inv
      refine ⟨_, rfl, p, _, _, _, rfl, rfl, SqT.of hp, at_of (j := 1) rfl x1, q1, rfl, ⟨_, SqT.of hq1⟩, fun D nD => lc_it (walk_tup (xs := ys)) (fun i H' => Same H H' ∧ H' D = some (.lst (((m.map portB).take i).map V.str))) ⟨Same.new nD, upd_same⟩ (fun i H' _ z => SqT.of (z.1 _ _ hq1)) ?_ ?_⟩
      · rintro i x Ha Hb hi ⟨sa, da⟩ ⟨e, ex⟩
        subst e
        have li : i < m.length := by rw [← rm.len]; exact hi
        obtain ⟨vi, ev, rv⟩ := rm.get (i := i) (d := m[i]) (List.getElem?_eq_getElem li)
        obtain rfl := Option.some.inj (ev.symm.trans ex)
        obtain ⟨lr, zs, er, ez, ep⟩ := row_inv (z3 _ (List.getElem_mem li))
        rw [er] at rv
        obtain ⟨pr, xr, rfl, hpr, rr⟩ := rv.tup_inv
        obtain ⟨vz, evz, rz⟩ := rr.get (i := 0) ez
        cases rz
        have lc : (m.map portB)[i]? = some zs := by rw [List.getElem?_map, List.getElem?_eq_getElem li, ← ep]; rfl
        refine ⟨rfl, _, rfl, pr, _, _, _, rfl, rfl, SqT.of (sa _ _ hpr), at_of (j := 0) rfl evz, _, da, ?_, fun b o e => ?_, ?_⟩
        · rw [List.length_map, List.length_take, List.length_map]
          exact Nat.lt_of_le_of_lt (Nat.min_le_right _ _) (Nat.lt_of_le_of_lt lm (by decide))
        · rw [upd_ne (ne_of_none e nD)]
          exact sa _ _ e
        · rw [upd_same, List.take_add_one, lc]
          simp
      · rintro H1 ⟨s1, d1⟩
        rw [List.take_of_length_le (by rw [List.length_map, rm.len]; exact Nat.le_refl _)] at d1
        exact k D H1 s1 nD d1
    refine ite2 (fun z => absurd z (ge c4)) fun _ => ?_
    have hb : portsB d = [] := by unfold portsB; rw [if_neg c, if_neg c4]
    rw [hb] at k
    exact ⟨by decide, fun q nq => k q _ (Same.new nq) nq upd_same⟩
end
end Oh
namespace Oh
open PySem PySem.Spec PyProof.Rows L2 PpSet
def namesX : Nat → DT → List Str
  | 0, d => if digitB d = true then [] else [strB (argB d 1)]
  | n + 1, d => if digitB d = true then [] else if headB d = "name" then [strB (argB d 1)] else ((tailB d).map (namesX n)).flatten
/-- the outer loop of a comprehension of two clauses -/
theorem lc2_it {J : It} {n : Nat} {G : Hp → Prop} {Y : Nat → Hp → V → Hp → Prop} (w : Walk J n G Y) {g : TG} {tt : TT} {wi1 : TI} {g1 : TG} {tt1 : TT} {te : TE} {vs vs1 : List Nat} {σ : L2.St} {H1 : Hp} {D : Addr} {Qd : Hp → Prop} (Pv : Nat → Hp → Prop) (h0 : Pv 0 (upd H1 D (.lst []))) (hG : ∀ i H, i ≤ n → Pv i H → G H)
    (hs : ∀ i x H H', i < n → Pv i H → Y i H x H' → g x (wipe σ vs) H' fun σ2 H2 => wipe σ2 vs = wipe σ vs ∧ tt σ2 H2 fun b H3 => if b = true then wi1 σ2 H3 fun J1 H4 => ∃ W1 : Nat → Nat → Hp → Prop, (∃ m, W1 0 m H4) ∧ ∀ j k H, W1 j k H →
      (J1.stop j H ∧ Pv (i + 1) H) ∨ (J1.go j H ∧ ∃ Nx1 : Hp → Prop, (∀ H', Nx1 H' → ∃ k', k' < k ∧ W1 (j + 1) k' H') ∧ ∀ x H', J1.yld j H x H' → g1 x (wipe σ2 vs1) H' fun σ3 H5 => wipe σ3 vs1 = wipe σ2 vs1 ∧ tt1 σ3 H5 fun b H6 =>
        if b = true then te σ3 H6 fun y H7 => ∃ acc, H7 D = some (.lst acc) ∧ acc.length < sizeLine ∧ Nx1 (upd H7 D (.lst (acc ++ [y]))) else Nx1 H6) else Pv (i + 1) H3) (hd : ∀ H, Pv n H → Qd H) :
    ∃ W : Nat → Nat → Hp → Prop, (∃ m, W 0 m (upd H1 D (.lst []))) ∧ ∀ i m H, W i m H → (J.stop i H ∧ Qd H) ∨ (J.go i H ∧ ∃ Nx : Hp → Prop, (∀ H', Nx H' → ∃ m', m' < m ∧ W (i + 1) m' H') ∧ ∀ x H', J.yld i H x H' → g x (wipe σ vs) H' fun σ2 H2 => wipe σ2 vs = wipe σ vs ∧ tt σ2 H2 fun b H3 =>
      if b = true then wi1 σ2 H3 fun J1 H4 => ∃ W1 : Nat → Nat → Hp → Prop, (∃ m, W1 0 m H4) ∧ ∀ j k H, W1 j k H → (J1.stop j H ∧ Nx H) ∨ (J1.go j H ∧ ∃ Nx1 : Hp → Prop, (∀ H', Nx1 H' → ∃ k', k' < k ∧ W1 (j + 1) k' H') ∧ ∀ x H', J1.yld j H x H' → g1 x (wipe σ2 vs1) H' fun σ3 H5 => wipe σ3 vs1 = wipe σ2 vs1 ∧ tt1 σ3 H5 fun b H6 =>
        if b = true then te σ3 H6 fun y H7 => ∃ acc, H7 D = some (.lst acc) ∧ acc.length < sizeLine ∧ Nx1 (upd H7 D (.lst (acc ++ [y]))) else Nx1 H6) else Nx H3) := by
  refine ⟨fun i m H => m = n - i ∧ i ≤ n ∧ Pv i H, ⟨n, by simp, Nat.zero_le _, h0⟩, ?_⟩
  rintro i m H ⟨rfl, hi, p⟩
  have q := hG i H hi p
  by_cases hlt : i < n
  · exact .inr ⟨w.goes i H hlt q, Pv (i + 1), fun H' p' => ⟨n - (i + 1), by omega, rfl, hlt, p'⟩, fun x H' y => hs i x H H' hlt p (w.yields i H x H' hlt q y)⟩
  · have e : i = n := by omega
    subst e
    exact .inl ⟨w.stops H q, hd H p⟩
/-- the inner loop -/
theorem in_it {J1 : It} {n : Nat} {G : Hp → Prop} {Y : Nat → Hp → V → Hp → Prop} (w : Walk J1 n G Y) {g1 : TG} {tt1 : TT} {te : TE} {vs1 : List Nat} {σ2 : L2.St} {H4 : Hp} {D : Addr} {Qd : Hp → Prop} (Pv : Nat → Hp → Prop) (h0 : Pv 0 H4) (hG : ∀ i H, i ≤ n → Pv i H → G H)
    (hs : ∀ j x H H', j < n → Pv j H → Y j H x H' → g1 x (wipe σ2 vs1) H' fun σ3 H5 => wipe σ3 vs1 = wipe σ2 vs1 ∧ tt1 σ3 H5 fun b H6 => if b = true then te σ3 H6 fun y H7 => ∃ acc, H7 D = some (.lst acc) ∧ acc.length < sizeLine ∧ Pv (j + 1) (upd H7 D (.lst (acc ++ [y]))) else Pv (j + 1) H6) (hd : ∀ H, Pv n H → Qd H) :
    ∃ W1 : Nat → Nat → Hp → Prop, (∃ m, W1 0 m H4) ∧ ∀ j k H, W1 j k H → (J1.stop j H ∧ Qd H) ∨ (J1.go j H ∧ ∃ Nx1 : Hp → Prop, (∀ H', Nx1 H' → ∃ k', k' < k ∧ W1 (j + 1) k' H') ∧ ∀ x H', J1.yld j H x H' → g1 x (wipe σ2 vs1) H' fun σ3 H5 => wipe σ3 vs1 = wipe σ2 vs1 ∧ tt1 σ3 H5 fun b H6 =>
      if b = true then te σ3 H6 fun y H7 => ∃ acc, H7 D = some (.lst acc) ∧ acc.length < sizeLine ∧ Nx1 (upd H7 D (.lst (acc ++ [y]))) else Nx1 H6) := by
  refine ⟨fun i m H => m = n - i ∧ i ≤ n ∧ Pv i H, ⟨n, by simp, Nat.zero_le _, h0⟩, ?_⟩
  rintro i m H ⟨rfl, hi, p⟩
  have q := hG i H hi p
  by_cases hlt : i < n
  · exact .inr ⟨w.goes i H hlt q, Pv (i + 1), fun H' p' => ⟨n - (i + 1), by omega, rfl, hlt, p'⟩, fun x H' y => hs i x H H' hlt p (w.yields i H x H' hlt q y)⟩
  · have e : i = n := by omega
    subst e
    exact .inl ⟨w.stops H q, hd H p⟩
theorem expr_inv {n : Nat} {d : DT} (h : exprB n d = true) (hd : digitB d = false) : (headB d = "name" ∧ lenB d = 2 ∧ nameB (argB d 1) = true) ∨ (∃ n' p, n = n' + 1 ∧ headB d ≠ "name" ∧ partsB (headB d) = some p ∧ lenB d = 1 + p ∧ ∀ x ∈ tailB d, exprB n' x = true) := by
  by_cases hn : headB d = "name"
  · rw [expr_name hn, hd, Bool.false_or] at h
    obtain ⟨h1, h2⟩ := Bool.and_eq_true_iff.mp h
    exact .inl ⟨hn, beq_iff_eq.mp h1, h2⟩
  · cases n with
    | zero => rw [expr_zero hn, hd] at h; cases h
    | succ n =>
      cases hp : partsB (headB d) with
      | none => rw [expr_none hn hp, hd] at h; cases h
      | some p =>
        rw [expr_some hn hp, hd, Bool.false_or] at h
        obtain ⟨h1, h2⟩ := Bool.and_eq_true_iff.mp h
        exact .inr ⟨n, p, rfl, hn, rfl, beq_iff_eq.mp h1, fun x mx => List.all_eq_true.mp h2 _ (List.mem_map_of_mem mx)⟩
def spNamesX (K : PySem.W.Frag) (n : Nat) : Sp := fun vs H Q _ => ∃ v d, vs = [v] ∧ Rp K H v d ∧ exprB n d = true ∧ ∀ p H', Same H H' → H p = none → H' p = some (.lst ((namesX n d).map V.str)) → Q (.ref p) H'
def spNamesP (K : PySem.W.Frag) : Nat → Sp
  | 0 => fun _ _ _ _ => False
  | n + 1 => spNamesX K n
theorem names_few : ∀ (n : Nat) (d : DT), exprB n d = true → (namesX n d).length ≤ 2 ^ n
  | 0, d, _ => by
    unfold namesX
    split
    · exact Nat.zero_le _
    · exact Nat.le_refl _
  | n + 1, d, h => by
    unfold namesX
    split
    · exact Nat.zero_le _
    · rename_i hd
      split
      · exact Nat.one_le_two_pow
      · rename_i hn
        cases hp : partsB (headB d) with
        | none => rw [expr_none hn hp] at h; exact absurd h hd
        | some p =>
          rw [expr_some hn hp, Bool.eq_false_iff.mpr hd, Bool.false_or] at h
          obtain ⟨h1, h2⟩ := Bool.and_eq_true_iff.mp h
          obtain ⟨_, _, p2⟩ := parts_some hp
          have tl : (tailB d).length ≤ 2 := by
            have h1 : lenB d = 1 + p := beq_iff_eq.mp h1
            cases d with
            | tup l =>
              show (l.drop 1).length ≤ 2
              have h1 : l.length = 1 + p := h1
              rw [List.length_drop]
              omega
            | _ => exact Nat.zero_le _
          have each : ∀ x ∈ tailB d, (namesX n x).length ≤ 2 ^ n := fun x mx => names_few n x (List.all_eq_true.mp h2 _ (List.mem_map_of_mem mx))
          have gen : ∀ l : List DT, (∀ x ∈ l, (namesX n x).length ≤ 2 ^ n) → ((l.map (namesX n)).flatten).length ≤ l.length * 2 ^ n := by
            intro l
            induction l with
            | nil => intro _; simp
            | cons x r ih =>
              intro hx
              rw [List.map_cons, List.flatten_cons, List.length_append, List.length_cons, Nat.succ_mul]
              have a1 := hx x List.mem_cons_self
              have a2 := ih fun y my => hx y (List.mem_cons_of_mem _ my)
              omega
          have g := gen _ each
          rw [Nat.pow_succ, Nat.mul_comm (2 ^ n) 2]
          exact Nat.le_trans g (Nat.mul_le_mul_right _ tl)
section
variable {P : Program} {w : World} {K : PySem.W.Frag} {mg : Str → Option Value} {base : Heap} {kw pk ck : Addr}
abbrev nNi : List Str := ["expression", "part", "name"]
theorem scNamesIn : FnScope nNi ["expression"] (defScope sNamesIn) := ⟨rfl, rfl, rfl, by decide +kernel, rfl, by decide +kernel, by decide +kernel⟩
theorem namesIn_step {n : Nat} (n4 : n ≤ 4) {f fD : Addr} {fd fdD : FuncData} (F : Fun K "_names_in" "_names_in" sNamesIn f fd)
    (GD : FnOk P w K mg base CX0 2 fD fdD ["value"] (spB K digitB)) (kD : PySem.W.keepIn K (.ref fD) = true) (bD : Binds K fdD ["value"] []) (mD : mg "is_digit" = some (.ref fD))
    (GP : FnOk P w K mg base CX0 (2 + n) f fd ["expression"] (spNamesP K n)) (bN : Binds K fd ["expression"] []) (mN : mg "_names_in" = some (.ref f)) : FnOk P w K mg base CX0 (2 + n + 1) f fd ["expression"] (spNamesX K n) := by
  refine F.ok scNamesIn (fun vs H Q E h => ?_) (fun cdv A outer s H vs Q E hr h => ?_)
  · obtain ⟨v, d, rfl, _⟩ := h
    rfl
  · obtain ⟨v, d, rfl, r, he, k⟩ := h
    have hr2 : Room 2 _ := hr.mono (by omega)
    refine ⟨_, pss_cons (ps_if (pt_val (pe_call GD hr2 (by rfl) mD kD bD .nil pass0 (pa_cons (pv 0) pa_nil))) (pss_one (ps_ret (pe_lst pa_nil))) pss_nil)
      (pss_cons (ps_if (pt_cmpR op_eq (pe_ix ix_tup (pv 0) pe_int (fun _ _ => rfl)) pe_str (nomark _)) (pss_one (ps_ret (pe_lst (pa_cons (pe_ix ix_tup (pv 0) pe_int (fun _ _ => rfl)) pa_nil)))) pss_nil)
      (pss_one (ps_ret (pe_lc2 (own := [("part", 1), ("name", 2)]) (vs1 := [2]) (g := gName 1) (tt := tYes) (g1 := gName 2) (tt1 := tYes) (wi1 := iList K (tCall (spNamesP K n) [] E0 (tCons (tVar 1) tNil))) (te := tVar 2) rfl scNamesIn.nd (pi_tup (pe_slice sl_tup (pv 0) (po_some pe_int) po_none))
        (blkOk_by (N := nNi) (sc := defScope sNamesIn) (by decide +kernel)) (by decide +kernel) (fun _ _ _ _ _ => pg_name (i := 1) scNamesIn.nd rfl (Or.inl rfl)) (fun _ _ _ _ _ => pts_nil)
        (fun _ _ _ _ _ => pi_list (by exact (pe_call GP hr (by rfl) mN F.kp bN .nil pass0 (pa_cons (pv 1) pa_nil)))) (fun _ _ _ _ _ => pg_name (i := 2) scNamesIn.nd rfl (Or.inl rfl)) (fun _ _ _ _ _ => pts_nil) (fun _ _ _ _ _ => pv 2))))), ?_⟩
    have ge : ∀ {a b : Str}, a ≠ b → ¬ decide (V.str a = V.str b) = true := fun h z => h (V.str.inj (of_decide_eq_true z))
    refine ⟨_, rfl, v, d, rfl, r, fun H1 s1 => ⟨_, rfl, ?_⟩⟩
    cases hd : digitB d with
    | true =>
      have e : namesX n d = [] := by cases n <;> (unfold namesX; rw [if_pos hd])
      rw [e] at k
      exact iteT ⟨by decide, fun q nq => k q _ (s1.trans (Same.new nq)) (s1.free nq) upd_same⟩
    | false =>
      refine iteF ?_
      have nd : ¬ digitB d = true := by rw [hd]; decide
      have inv := expr_inv he hd
      have ne : headB d ≠ "" := by
        rcases inv with ⟨h1, _⟩ | ⟨_, _, _, _, h2, _⟩
        · rw [h1]
          decide
        · exact (parts_some h2).2.1
      obtain ⟨l, el⟩ := head_inv ne
      have ll := len_of el
      obtain ⟨p, xs, rfl, hp, ra⟩ := (el ▸ r : Rp K H v (.tup (.str (headB d) :: l))).tup_inv
      obtain ⟨v0, x0, r0⟩ := ra.get (i := 0) rfl
      cases r0
      have hp1 := s1 _ _ hp
      refine ⟨_, rfl, p, _, _, _, rfl, rfl, SqT.of hp1, at_of (j := 0) rfl x0, rfl, _, rfl, ?_⟩
      rcases inv with ⟨h1, h2, h3⟩ | ⟨n', m, rfl, h1, h2, h3, h4⟩
      · refine ite2 (fun _ => ?_) (fun z => absurd (decide_eq_true (by rw [h1])) z)
        have e : namesX n d = [strB (argB d 1)] := by
          cases n with
          | zero => unfold namesX; rw [if_neg nd]
          | succ n => unfold namesX; rw [if_neg nd, if_pos h1]
        rw [e] at k
        obtain ⟨v1, x1, r1⟩ := arg_at (i := 1) ra (by rw [← ll, h2]; decide)
        rw [← el] at r1
        obtain rfl := name_inv r1 h3
        exact ⟨_, rfl, p, _, _, _, rfl, rfl, SqT.of hp1, at_of (j := 1) rfl x1, (by show 1 ≤ sizeLine; decide), fun q nq => k q _ (s1.trans (Same.new nq)) (s1.free nq) upd_same⟩
      · refine ite2 (fun z => absurd z (ge h1)) fun _ => ?_
        have e : namesX (n' + 1) d = ((tailB d).map (namesX n')).flatten := by unfold namesX; rw [if_neg nd, if_neg h1]
        rw [e] at k
        have et : tailB d = l := by rw [el]; rfl
        rw [et] at k h4
        obtain ⟨_, _, m2⟩ := parts_some h2
        have ln : l.length ≤ 2 := by
          rw [ll, List.length_cons] at h3
          omega
        have ra1 := ra.keep s1
        obtain ⟨vh, vs, rfl, ra'⟩ : ∃ vh vs, xs = vh :: vs ∧ RpAll K H1 vs l := by
          cases ra1 with
          | cons _ t => exact ⟨_, _, rfl, t⟩
        refine ⟨_, rfl, 1, rfl, p, _, rfl, SqT.of hp1, cut1_no _ _, fun q nq => ?_⟩
        rw [cut1]
        have sq : Same H1 (upd H1 q (.tup vs)) := Same.new nq
        have few : ∀ i, (((l.map (namesX n')).take i).flatten).length ≤ 1000 := fun i => by
          have g1 : ∀ l : List DT, (∀ x ∈ l, (namesX n' x).length ≤ 2 ^ n') → ∀ i, (((l.map (namesX n')).take i).flatten).length ≤ l.length * 2 ^ n' := by
            intro l
            induction l with
            | nil => intro _ i; simp
            | cons x r ih =>
              intro hx i
              cases i with
              | zero => simp
              | succ i =>
                rw [List.map_cons, List.take_succ_cons, List.flatten_cons, List.length_append, List.length_cons, Nat.succ_mul]
                have a1 := hx x List.mem_cons_self
                have a2 := ih (fun y my => hx y (List.mem_cons_of_mem _ my)) i
                omega
          have a := g1 l (fun x mx => names_few n' x (h4 x mx)) i
          have b : (2 : Nat) ^ n' ≤ 2 ^ 4 := Nat.pow_le_pow_right (by decide) (by omega)
          exact Nat.le_trans a (Nat.le_trans (Nat.mul_le_mul ln b) (by decide))
        refine ⟨q, rfl, ⟨_, SqT.of upd_same⟩, fun D nD => lc2_it (walk_tup (xs := vs)) (fun i H' => Same (upd H1 q (.tup vs)) H' ∧ H' D = some (.lst ((((l.map (namesX n')).take i).flatten).map V.str))) ⟨Same.new nD, upd_same⟩ (fun i H' _ z => SqT.of (z.1 _ _ upd_same)) ?_ ?_⟩
        · rintro i x Ha Hb hi ⟨sa, da⟩ ⟨e, ex⟩
          subst e
          have li : i < l.length := by rw [← ra'.len]; exact hi
          obtain ⟨v1, ev, rv⟩ := ra'.get (i := i) (d := l[i]) (List.getElem?_eq_getElem li)
          obtain rfl := Option.some.inj (ev.symm.trans ex)
          have lc : (l.map (namesX n'))[i]? = some (namesX n' l[i]) := by rw [List.getElem?_map, List.getElem?_eq_getElem li]; rfl
          have tk : ((l.map (namesX n')).take (i + 1)).flatten = ((l.map (namesX n')).take i).flatten ++ namesX n' l[i] := by rw [List.take_add_one, lc, List.flatten_append]; simp
          refine ⟨rfl, _, rfl, v1, l[i], rfl, rv.keep (sq.trans sa), h4 _ (List.getElem_mem li), fun q3 Hc sc nq3 hq3 => ⟨q3, rfl, ⟨_, SqL.of hq3⟩, in_it (walk_list (xs := (namesX n' l[i]).map V.str)) (fun j H' => Same (upd H1 q (.tup vs)) H' ∧ H' q3 = some (.lst ((namesX n' l[i]).map V.str)) ∧ H' D = some (.lst ((((l.map (namesX n')).take i).flatten ++ (namesX n' l[i]).take j).map V.str))) ⟨sa.trans sc, hq3, by rw [List.take_zero, List.append_nil]; exact sc _ _ da⟩ (fun j H' _ z => SqL.of z.2.1) ?_ ?_⟩⟩
          · rintro j x Hd He hj ⟨sd, hqd, hDd⟩ ⟨e, exj⟩
            subst e
            have qD : q3 ≠ D := fun z => by
              subst z
              cases da.symm.trans nq3
            obtain ⟨nm, en, rfl⟩ : ∃ nm, (namesX n' l[i])[j]? = some nm ∧ x = .str nm := by
              rw [List.getElem?_map] at exj
              cases en : (namesX n' l[i])[j]? with
              | none => rw [en] at exj; cases exj
              | some nm => rw [en] at exj; exact ⟨nm, rfl, (Option.some.inj exj).symm⟩
            refine ⟨rfl, _, rfl, _, hDd, ?_, fun b o eb => ?_, ?_, ?_⟩
            · have f1 := few (i + 1)
              rw [tk, List.length_append] at f1
              rw [List.length_map, List.length_append, List.length_take]
              exact Nat.lt_of_le_of_lt (show _ ≤ 1000 by omega) (by decide)
            · rw [upd_ne (ne_of_none eb nD)]
              exact sd _ _ eb
            · rw [upd_ne qD]
              exact hqd
            · rw [upd_same, List.take_add_one, en]
              simp
          · rintro Hd ⟨sd, _, hDd⟩
            rw [List.length_map, List.take_length, ← tk] at hDd
            exact ⟨sd, hDd⟩
        · rintro Hc ⟨sc, dc⟩
          rw [List.take_of_length_le (by rw [List.length_map, ra'.len]; exact Nat.le_refl _)] at dc
          exact k D Hc (s1.trans (sq.trans sc)) ((s1.trans sq).free nD) dc
end
end Oh
namespace Oh
open PySem PySem.Spec PyProof.Rows L2 PpSet
def namesB (d : DT) : List Str :=
  if headB d = "set" then strB (argB d 1) :: namesX 4 (argB d 2) else if headB d = "tell" then namesX 4 (argB d 2) else if headB d = "if" then namesX 4 (argB d 1) else if headB d = "hear" then [strB (argB d 2)]
  else if headB d = "wait" then (listB (argB d 1)).map fun r => strB (argB r 1) else []
section
variable {P : Program} {w : World} {K : PySem.W.Frag} {mg : Str → Option Value} {base : Heap} {kw pk ck : Addr}
theorem ok_namesIn {f fD : Addr} {fd fdD : FuncData} (F : Fun K "_names_in" "_names_in" sNamesIn f fd)
    (GD : FnOk P w K mg base CX0 2 fD fdD ["value"] (spB K digitB)) (kD : PySem.W.keepIn K (.ref fD) = true) (bD : Binds K fdD ["value"] []) (mD : mg "is_digit" = some (.ref fD))
    (bN : Binds K fd ["expression"] []) (mN : mg "_names_in" = some (.ref f)) : ∀ n, n ≤ 4 → FnOk P w K mg base CX0 (3 + n) f fd ["expression"] (spNamesX K n)
  | 0, h => (namesIn_step h F GD kD bD mD never_ok bN mN).mono (by omega)
  | n + 1, h => (namesIn_step h F GD kD bD mD ((ok_namesIn F GD kD bD mD bN mN n (by omega)).mono (by omega)) bN mN).mono (by omega)
theorem scNames : FnScope nBl ["statement"] (defScope sNames) := ⟨rfl, rfl, rfl, by decide +kernel, rfl, by decide +kernel, by decide +kernel⟩
theorem ok_namesD {f fN : Addr} {fd fdN : FuncData} (F : Fun K "names_of" "names_of" sNames f fd)
    (GN : FnOk P w K mg base CX0 7 fN fdN ["expression"] (spNamesX K 4)) (kN : PySem.W.keepIn K (.ref fN) = true) (bN : Binds K fdN ["expression"] []) (mN : mg "_names_in" = some (.ref fN)) : FnOk P w K mg base CX0 8 f fd ["statement"] (spStrs K namesB) := by
  refine F.ok scNames (fun vs H Q E h => ?_) (fun cdv A outer s H vs Q E hr h => ?_)
  · obtain ⟨v, d, rfl, _⟩ := h
    rfl
  · obtain ⟨v, d, rfl, r, hs, k⟩ := h
    obtain ⟨g, l, hk, hg, el⟩ := stmt_inv hs
    obtain ⟨p, xs, rfl, hp, ra⟩ := (el ▸ r : Rp K H v (.tup (.str (headB d) :: l))).tup_inv
    have hl := ra.len
    have ll := len_of el
    obtain ⟨v0, x0, r0⟩ := ra.get (i := 0) rfl
    cases r0
    have ge : ∀ {a b : Str}, a ≠ b → ¬ decide (V.str a = V.str b) = true := fun h z => h (V.str.inj (of_decide_eq_true z))
    refine ⟨_, pss_cons (ps_set (i := 1) scNames.nd rfl (Or.inl rfl) (pe_ix ix_tup (pv 0) pe_int (fun _ _ => rfl)))
      (pss_cons (ps_if (pt_cmpR op_eq (pv 1) pe_str (nomark _)) (pss_one (ps_ret (pe_lst (pa_cons (pe_ix ix_tup (pv 0) pe_int (fun _ _ => rfl)) (StX.pa_star (pe_call GN hr (by rfl) mN kN bN .nil pass0 (pa_cons (pe_ix ix_tup (pv 0) pe_int (fun _ _ => rfl)) pa_nil)) pa_nil))))) pss_nil)
      (pss_cons (ps_if (pt_cmpR op_eq (pv 1) pe_str (nomark _)) (pss_one (ps_ret (pe_call GN hr (by rfl) mN kN bN .nil pass0 (pa_cons (pe_ix ix_tup (pv 0) pe_int (fun _ _ => rfl)) pa_nil)))) pss_nil)
      (pss_cons (ps_if (pt_cmpR op_eq (pv 1) pe_str (nomark _)) (pss_one (ps_ret (pe_call GN hr (by rfl) mN kN bN .nil pass0 (pa_cons (pe_ix ix_tup (pv 0) pe_int (fun _ _ => rfl)) pa_nil)))) pss_nil)
      (pss_cons (ps_if (pt_cmpR op_eq (pv 1) pe_str (nomark _)) (pss_one (ps_ret (pe_lst (pa_cons (pe_ix ix_tup (pv 0) pe_int (fun _ _ => rfl)) pa_nil)))) pss_nil)
      (pss_cons (ps_if (pt_cmpR op_eq (pv 1) pe_str (nomark _)) (pss_one (ps_ret
          (pe_lc (own := [("row", 2)]) (g := gName 2) (tt := tYes) (te := tOp (rIxT K) (tVar 2) (tC (.int 1))) rfl scNames.nd (pi_tup (pe_ix ix_tup (pv 0) pe_int (fun _ _ => rfl))) (blkOk_by (N := nBl) (sc := defScope sNames) (by decide +kernel)) (fun _ _ _ _ _ => pg_name (i := 2) scNames.nd rfl (Or.inl rfl)) (fun _ _ _ _ _ => pts_nil)
            (fun _ _ _ _ _ => pe_ix ix_tup (pv 2) pe_int (fun _ _ => rfl))))) pss_nil)
      (pss_one (ps_ret (pe_lst pa_nil)))))))), ?_⟩
    refine ⟨_, rfl, p, _, _, _, rfl, rfl, SqT.of hp, at_of (j := 0) rfl x0, ?_⟩
    refine ⟨_, rfl, rfl, _, rfl, ?_⟩
    by_cases c1 : headB d = "set"
    · refine ite2 (fun _ => ?_) (fun z => absurd (decide_eq_true (by rw [c1])) z)
      have hb : namesB d = strB (argB d 1) :: namesX 4 (argB d 2) := by unfold namesB; rw [if_pos c1]
      rw [hb] at k
      obtain ⟨h1, h2, h3⟩ := tell_len hs (.inl c1)
      obtain ⟨v1, x1, r1⟩ := arg_at (i := 1) ra (by rw [← ll, h1]; decide)
      obtain ⟨v2, x2, r2⟩ := arg_at (i := 2) ra (by rw [← ll, h1]; decide)
      rw [← el] at r1 r2
      obtain rfl := name_inv r1 h2
      refine ⟨_, rfl, p, _, _, _, rfl, rfl, SqT.of hp, at_of (j := 1) rfl x1, _, rfl, p, _, _, _, rfl, rfl, SqT.of hp, at_of (j := 2) rfl x2, v2, argB d 2, rfl, r2, h3, fun q H1 s1 nq hq => ⟨q, _, rfl, .inr (SqL.of hq), ?_⟩⟩
      have few := names_few 4 (argB d 2) h3
      refine ⟨?_, fun q2 nq2 => k q2 _ (s1.trans (Same.new nq2)) (s1.free nq2) ?_⟩
      · show ((List.map V.str _) ++ []).length + 1 ≤ sizeLine
        rw [List.append_nil, List.length_map]
        exact Nat.le_trans (show _ ≤ 17 by omega) (by decide)
      · rw [upd_same, List.append_nil]
        rfl
    refine ite2 (fun z => absurd z (ge c1)) fun _ => ?_
    refine ⟨_, rfl, rfl, _, rfl, ?_⟩
    by_cases c2 : headB d = "tell"
    · refine ite2 (fun _ => ?_) (fun z => absurd (decide_eq_true (by rw [c2])) z)
      have hb : namesB d = namesX 4 (argB d 2) := by unfold namesB; rw [if_neg c1, if_pos c2]
      rw [hb] at k
      obtain ⟨h1, h2, h3⟩ := tell_len hs (.inr c2)
      obtain ⟨v2, x2, r2⟩ := arg_at (i := 2) ra (by rw [← ll, h1]; decide)
      rw [← el] at r2
      exact ⟨_, rfl, p, _, _, _, rfl, rfl, SqT.of hp, at_of (j := 2) rfl x2, v2, argB d 2, rfl, r2, h3, fun q H1 s1 nq hq => k q H1 s1 nq hq⟩
    refine ite2 (fun z => absurd z (ge c2)) fun _ => ?_
    refine ⟨_, rfl, rfl, _, rfl, ?_⟩
    by_cases c3 : headB d = "if"
    · refine ite2 (fun _ => ?_) (fun z => absurd (decide_eq_true (by rw [c3])) z)
      have hb : namesB d = namesX 4 (argB d 1) := by unfold namesB; rw [if_neg c1, if_neg c2, if_pos c3]
      rw [hb] at k
      obtain ⟨h1, _, _, h3⟩ := if_len hs c3
      obtain ⟨v1, x1, r1⟩ := arg_at (i := 1) ra (by rw [← ll, h1]; decide)
      rw [← el] at r1
      exact ⟨_, rfl, p, _, _, _, rfl, rfl, SqT.of hp, at_of (j := 1) rfl x1, v1, argB d 1, rfl, r1, h3, fun q H1 s1 nq hq => k q H1 s1 nq hq⟩
    refine ite2 (fun z => absurd z (ge c3)) fun _ => ?_
    refine ⟨_, rfl, rfl, _, rfl, ?_⟩
    by_cases c5 : headB d = "hear"
    · refine ite2 (fun _ => ?_) (fun z => absurd (decide_eq_true (by rw [c5])) z)
      have hb : namesB d = [strB (argB d 2)] := by unfold namesB; rw [if_neg c1, if_neg c2, if_neg c3, if_pos c5]
      rw [hb] at k
      obtain ⟨h1, h2, h3⟩ := hear_len hs c5
      obtain ⟨v2, x2, r2⟩ := arg_at (i := 2) ra (by rw [← ll, h1]; decide)
      rw [← el] at r2
      obtain rfl := name_inv r2 h3
      exact ⟨_, rfl, p, _, _, _, rfl, rfl, SqT.of hp, at_of (j := 2) rfl x2, (by show 1 ≤ sizeLine; decide), fun q nq => k q _ (Same.new nq) nq upd_same⟩
    refine ite2 (fun z => absurd z (ge c5)) fun _ => ?_
    refine ⟨_, rfl, rfl, _, rfl, ?_⟩
    by_cases c4 : headB d = "wait"
    · refine ite2 (fun _ => ?_) (fun z => absurd (decide_eq_true (by rw [c4])) z)
      have hb : namesB d = (listB (argB d 1)).map fun r => strB (argB r 1) := by unfold namesB; rw [if_neg c1, if_neg c2, if_neg c3, if_neg c5, if_pos c4]
      obtain ⟨z1, z2, z3, _⟩ := wait_len hs c4
      rw [hb] at k
      obtain ⟨v1, x1, r1⟩ := arg_at (i := 1) ra (by rw [← ll, z1]; decide)
      rw [← el] at r1
      obtain ⟨m, em, lm⟩ := choice_inv z2
      rw [em] at r1 k z3
      obtain ⟨q1, ys, rfl, hq1, rm⟩ := r1.tup_inv
      refine ⟨_, rfl, p, _, _, _, rfl, rfl, SqT.of hp, at_of (j := 1) rfl x1, q1, rfl, ⟨_, SqT.of hq1⟩, fun D nD => lc_it (walk_tup (xs := ys)) (fun i H' => Same H H' ∧ H' D = some (.lst (((m.map fun r => strB (argB r 1)).take i).map V.str))) ⟨Same.new nD, upd_same⟩ (fun i H' _ z => SqT.of (z.1 _ _ hq1)) ?_ ?_⟩
      · rintro i x Ha Hb hi ⟨sa, da⟩ ⟨e, ex⟩
        subst e
        have li : i < m.length := by rw [← rm.len]; exact hi
        obtain ⟨vi, ev, rv⟩ := rm.get (i := i) (d := m[i]) (List.getElem?_eq_getElem li)
        obtain rfl := Option.some.inj (ev.symm.trans ex)
        have hrow := z3 _ (List.getElem_mem li)
        obtain ⟨lr, er, l3⟩ := row_len hrow
        have rn := (row_names hrow).2
        have rv' := rv
        rw [er] at rv'
        obtain ⟨pr, xr, rfl, hpr, rr⟩ := rv'.tup_inv
        obtain ⟨vz, evz, rz⟩ := arg_at (i := 1) rr (by omega)
        rw [← er] at rz
        obtain rfl := name_inv rz rn
        have lc : (m.map fun r => strB (argB r 1))[i]? = some (strB (argB m[i] 1)) := by rw [List.getElem?_map, List.getElem?_eq_getElem li]; rfl
        refine ⟨rfl, _, rfl, pr, _, _, _, rfl, rfl, SqT.of (sa _ _ hpr), at_of (j := 1) rfl evz, _, da, ?_, fun b o e => ?_, ?_⟩
        · rw [List.length_map, List.length_take, List.length_map]
          exact Nat.lt_of_le_of_lt (Nat.min_le_right _ _) (Nat.lt_of_le_of_lt lm (by decide))
        · rw [upd_ne (ne_of_none e nD)]
          exact sa _ _ e
        · rw [upd_same, List.take_add_one, lc]
          simp
      · rintro H1 ⟨s1, d1⟩
        rw [List.take_of_length_le (by rw [List.length_map, rm.len]; exact Nat.le_refl _)] at d1
        exact k D H1 s1 nD d1
    refine ite2 (fun z => absurd z (ge c4)) fun _ => ?_
    have hb : namesB d = [] := by unfold namesB; rw [if_neg c1, if_neg c2, if_neg c3, if_neg c5, if_neg c4]
    rw [hb] at k
    exact ⟨by decide, fun q nq => k q _ (Same.new nq) nq upd_same⟩
end
end Oh
namespace Oh
open PySem PySem.Spec PyProof.Rows L2 PpSet
section
variable {P : Program} {w : World} {K : PySem.W.Frag} {mg : Str → Option Value} {base : Heap} {kw pk ck : Addr}
theorem ok_layD {fL fB : Addr} {fdL fdB : FuncData} (F : Fun K "laid_out" "laid_out" sLaid fL fdL) (T : TxtP mg)
    (GB : FnOk P w K mg base CX0 1 fB fdB ["statement"] (spBlocks K)) (kB : PySem.W.keepIn K (.ref fB) = true) (bB : Binds K fdB ["statement"] []) (mB : mg "blocks_of" = some (.ref fB))
    (bL : Binds K fdL ["block", "path", "behind", "outside"] []) (mL : mg "laid_out" = some (.ref fL)) : ∀ f, FnOk P w K mg base CX0 (2 + f) fL fdL ["block", "path", "behind", "outside"] (spLay K f)
  | 0 => (lay_step (f := 0) F T GB kB bB mB never_ok bL mL).mono (by omega)
  | f + 1 => (lay_step (f := f + 1) F T GB kB bB mB ((ok_layD F T GB kB bB mB bL mL f).mono (by omega)) bL mL).mono (by omega)
end
end Oh
/-! Dict comprehensions whose keys are tuples of ints and texts. -/
namespace Oh
open PySem PySem.Spec PyProof.Rows L2
section
variable {X : Cx}
theorem put_tuple {pins : List (Addr × Obj)} {σ : L2.St} {H : Hp} {s : Shared} {E : Value → Shared → Prop} {D b : Addr} {kvs : List (List L2.Key × V)} {k : List L2.Key} {v : V} {u r : Value} {Q : Unit → Shared → Prop} (hu : X.A.units < cLine) (I : Inv X pins σ H s) (hD : H D = some (.dT kvs))
    (hz : kvs.length < sizeLine) (ek : H b = some (.tup (k.map kV))) (ru : RelV (.ref b) u) (rv : RelV v r) (h : ∀ s', Inv X pins σ (upd H D (.dT (putK kvs k v))) s' → Q () s') : wpAny (model X.prog X.w) X.A (dictSet D u r) Q E s := by
  cases (show u = Value.ref b from ru)
  obtain ⟨z, hd, xs, rel, dd⟩ := dt_of I.hok hD
  have zx : xs.length ≤ sizeLine := by rw [← Paired.length rel]; exact z
  have zl : (putK kvs k v).length ≤ sizeLine := by have := length_putK kvs k v; omega
  refine wpAny_dictSet_heap (hsz := zx) (show (tupleKind (mixKind X.prog X.w)).room X.A from hu) (key_of I.hok ek) dd fun h' dd' hs => h _ ?_
  obtain ⟨q, es, ep, hq, h2, h3, h4, _, h5⟩ := dd'
  refine d_write I (by rw [hD]; exact True.intro) hs ⟨q, hq⟩ ⟨zl, hd, _, (rel.put k ek rv).keeps fun c ys ec => ?_, q, es, ep, hq, h2, h3, h4, h5⟩
  rw [upd_ne (ne_of ec hD (fun z => nomatch z))]
  exact ec
/-- {k: v for target in iter if ..}, the keys tuples of ints and texts -/
def tDcT (wi : TI) (g : TG) (tt : TT) (tk tv : TE) (vs : List Nat) : TE := fun σ H Q => wi σ H fun J H1 => ∀ D, H1 D = none → ∃ W : Nat → Nat → Hp → Prop, (∃ m, W 0 m (upd H1 D (.dT []))) ∧ ∀ i m H, W i m H →
  (J.stop i H ∧ Q (.ref D) H) ∨ (J.go i H ∧ ∃ Nx : Hp → Prop, (∀ H', Nx H' → ∃ m', m' < m ∧ W (i + 1) m' H') ∧ ∀ x H', J.yld i H x H' → g x (wipe σ vs) H' fun σ2 H2 => wipe σ2 vs = wipe σ vs ∧ tt σ2 H2 fun b H3 =>
    if b = true then tk σ2 H3 fun y H4 => tv σ2 H4 fun z H5 => ∃ (c : Addr) (kvs : List (List L2.Key × V)) (k : List L2.Key), y = .ref c ∧ H5 c = some (.tup (k.map kV)) ∧ H5 D = some (.dT kvs) ∧ kvs.length < sizeLine ∧ Nx (upd H5 D (.dT (putK kvs k z))) else Nx H3)
theorem dcT_core {pins : List (Addr × Obj)} {s : Shared} {σ : L2.St} {H : Hp} {Q : VK} {kx vx tg iter : Expr} {ifs : List Expr} {scope : Scope} {own : List (PySem.Str × Nat)} {pos pos' : Pos} {wi : TI} {g : TG} {tt : TT} {tk tv : TE} {use : Option (Value → Sem Unit)} {Qf : Value → Shared → Prop}
    (hu : X.A.units < cLine) (hc : X.calm = true) (hN : X.N.Nodup) (I : Inv X pins σ H s) (hi : PI X tg iter wi) (ok : BlkOk X.N X.env.scope scope own)
    (hg : ∀ (s : Shared) (H : Hp) (C : Addr) (cl : List (PySem.Str × Addr)) (fp : List Addr), PG (X.blk s H scope (compEnvC scope cl C X.env) fp) tg g)
    (ht : ∀ (s : Shared) (H : Hp) (C : Addr) (cl : List (PySem.Str × Addr)) (fp : List Addr), PTs (X.blk s H scope (compEnvC scope cl C X.env) fp) ifs tt)
    (hk : ∀ (s : Shared) (H : Hp) (C : Addr) (cl : List (PySem.Str × Addr)) (fp : List Addr), PE (X.blk s H scope (compEnvC scope cl C X.env) fp) kx tk)
    (he : ∀ (s : Shared) (H : Hp) (C : Addr) (cl : List (PySem.Str × Addr)) (fp : List Addr), PE (X.blk s H scope (compEnvC scope cl C X.env) fp) vx tv)
    (hs : ∀ x, foldedSetIterable iter X.env x = pure x) (h : tDcT wi g tt tk tv (own.map (·.2)) σ H Q)
    (hRR : ∀ D C s' m H', Inv X pins σ H' s' → Q (.ref D) H' → s'.heap.Ns C m → FpOk X pins H' C → compPost (model X.prog X.w) X.A X.xe use Qf (.ref D) C (.ok .next) s') :
    wpAny (model X.prog X.w) X.A (comprehension (.DictComp kx vx [⟨tg, iter, ifs, 0⟩] scope pos) scope X.env pos' newDict false (eval iter X.env) use) Qf X.xe s := by
  have closes : ∀ y ∈ scope.names, y.2 = .free → ∃ c, X.env.cells.lookup y.1 = some c := fun y hy e => (ok.free y hy e).elim (fun k => I.ok.has _ (.inl k)) fun k => I.ok.has _ (.inr k)
  refine wpAny_comprehension_free (use := use) rfl hs (closure_ok closes) ok.kind (fun y hy e => by rw [ok.uniq y hy, e]) (thn (hi.run pins s σ H _ I h) fun xv s1 hx => thn hx fun itv s2 h2 => ?_)
  obtain ⟨it, fp, tn, J, H2, e, I2, T, st2, f2, q⟩ := h2
  subst e
  refine wpAny_newObj_type (newEnv_comp ?_)
  generalize hD : s2.heap.objs.size = D
  obtain ⟨W, ⟨m0, w0⟩, turn⟩ := q D (I2.hok.fresh (Nat.le_of_eq hD))
  generalize hs3 : ({ s2 with heap := s2.heap.push { cls := .type "dict", data := .dict #[] } } : Shared) = s3
  have h3 : s3.heap = s2.heap.push { cls := .type "dict", data := .dict #[] } := by rw [← hs3]
  have I3 : Inv X pins σ (upd H2 D (.dT [])) s3 := by
    rw [← hs3]
    refine I2.laid (t' := s2.toks) (fun b o z => Heap.get?_push_of_some _ z) (Nat.le_of_eq hD) ?_
    rw [← hD]
    exact dt_empty s2.heap I2.big
  have f3 : ∀ b ∈ fp, FpOk X pins (upd H2 D (.dT [])) b ∧ b < s3.heap.objs.size := fun b hb => by
    obtain ⟨o, eo, _⟩ := T.obj _ _ st2 b hb
    have lt : b < s2.heap.objs.size := Heap.lt_size eo
    refine ⟨⟨?_, (f2 b hb).2⟩, by rw [h3, Heap.size_push]; exact Nat.lt_succ_of_lt lt⟩
    rw [upd_ne (by rw [← hD]; exact Nat.ne_of_lt lt)]
    exact (f2 b hb).1
  have st3 : tn 0 s3.heap := T.keep _ _ _ st2 fun b _ o z => by rw [h3]; exact Heap.get?_push_of_some _ z
  have I4 := block_start I3 ok hN f3
  have j1 := hg s3 (upd H2 D (.dT [])) s3.heap.objs.size (cellsFrom (s3.heap.objs.size + 1) scope.names (cloFrom X.env.cells scope.names [])) fp
  have j2 := ht s3 (upd H2 D (.dT [])) s3.heap.objs.size (cellsFrom (s3.heap.objs.size + 1) scope.names (cloFrom X.env.cells scope.names [])) fp
  have j3 := hk s3 (upd H2 D (.dT [])) s3.heap.objs.size (cellsFrom (s3.heap.objs.size + 1) scope.names (cloFrom X.env.cells scope.names [])) fp
  have j4 := he s3 (upd H2 D (.dT [])) s3.heap.objs.size (cellsFrom (s3.heap.objs.size + 1) scope.names (cloFrom X.env.cells scope.names [])) fp
  show codeAny _ _ (.compStart (.DictComp kx vx [⟨tg, iter, ifs, 0⟩] scope pos) 0 (.ref it) (.ref D) (compEnvC scope (cellsFrom (s3.heap.objs.size + 1) scope.names (cloFrom X.env.cells scope.names [])) s3.heap.objs.size X.env)) (compPost (model X.prog X.w) X.A X.xe use Qf (.ref D) s3.heap.objs.size) { s3 with heap := pushCells (s3.heap.push { cls := .type "dict", data := .dict #[] }) scope.names }
  have none3 : ∀ b ∈ fp, (upd H2 D (.dT [])) b = none := fun b hb => (f3 b hb).1.1
  generalize hce : compEnvC scope (cellsFrom (s3.heap.objs.size + 1) scope.names (cloFrom X.env.cells scope.names [])) s3.heap.objs.size X.env = ce at I4 j1 j2 j3 j4 ⊢
  have cL : ce.locals = s3.heap.objs.size := by subst hce; rfl
  generalize hH3 : upd H2 D (.dT []) = H3 at I3 I4 j1 j2 j3 j4 w0 none3 f3
  generalize hs4 : ({ s3 with heap := pushCells (s3.heap.push { cls := .type "dict", data := .dict #[] }) scope.names } : Shared) = s4 at I4 ⊢
  have st4 : tn 0 s4.heap := T.keep _ _ _ st3 fun b _ o z => by rw [← hs4]; exact pushCells_keeps _ _ _ _ (Heap.get?_push_of_some _ z)
  have own4 : ∀ {σ' : L2.St} {H' : Hp} {s' : Shared}, Inv (X.blk s3 H3 scope ce fp) [] σ' H' s' → (∀ b ∈ fp, H' b = none) → ∀ b ∈ fp, FpOk (X.blk s3 H3 scope ce fp) [] H' b := fun {σ' H' s'} I' hn b hb =>
    ⟨hn b hb, (I'.ok.exf b hb).1, I'.ok.exfs b hb, .inl hb, fun x c e => (I'.ok.exf b hb).2 x c e, fun p hp => absurd (show p ∈ ([] : List (Addr × Obj)) ++ [] from hp) (by simp)⟩
  have loop : codeAny (model X.prog X.w) X.A (.compLoop (.DictComp kx vx [⟨tg, iter, ifs, 0⟩] scope pos) 0 (.ref it) (.ref D) ce) (compPost (model X.prog X.w) X.A X.xe use Qf (.ref D) s3.heap.objs.size) s4 := by
    refine compLoop_anyD (fun n s' => ∃ i H', Inv (X.blk s3 H3 scope ce fp) [] (wipe σ (own.map (·.2))) H' s' ∧ tn i s'.heap ∧ (∀ b ∈ fp, H' b = none) ∧ W i n H') ?_ m0 ⟨0, H3, I4, st4, none3, w0⟩
    rintro n s5 ⟨i, H5, I5, st5, n5, w5⟩
    rcases turn i n H5 w5 with ⟨stop, qq⟩ | ⟨go, Nx, hNx, step⟩
    · refine thnF (T.done (X.blk s3 H3 scope ce fp) rfl rfl rfl hc i [] s5 _ H5 (fun _ _ => False) I5 (own4 I5 n5) st5 stop) fun r s6 ⟨hr, I6⟩ => ?_
      subst hr
      have I7 : Inv X pins σ H5 s6 := I3.call' (ch := fp) I6.os I6.base I6.hok I6.bare fun b hb => ⟨(f3 b hb).1.2.2.2.1, (f3 b hb).1.2.1, (f3 b hb).1.2.2.2.2.1, (f3 b hb).1.2.2.2.2.2⟩
      have nC : H5 s3.heap.objs.size = none := by
        have z : H5 ce.locals = none := I6.free
        rw [cL] at z
        exact z
      obtain ⟨m, hn, _⟩ := I6.loc
      have hn : s6.heap.Ns ce.locals m := hn
      rw [cL] at hn
      exact hRR D s3.heap.objs.size s6 m H5 I7 qq hn (I3.fpOk (Nat.le_refl _) nC)
    · refine thnF (T.item (X.blk s3 H3 scope ce fp) rfl rfl rfl hc i [] s5 _ H5 (fun _ _ => False) I5 (own4 I5 n5) st5 go) fun r s6 ⟨u, hr, h6⟩ => ?_
      subst hr
      refine thnF h6 fun _ s7 ⟨x, H7, I7, r7, y7, st7, n7⟩ => ?_
      refine thnF (j1.run _ s7 _ H7 x u _ (I7.pinned (own4 I7 n7) (T.obj _ _ st7)) r7 (step x H7 y7)) fun _ s8 ⟨σ8, H8, I8, hw8, q8⟩ => ?_
      refine thnF (j2.run _ s8 σ8 H8 _ I8 q8) fun b s9 ⟨H9, I9, q9⟩ => ?_
      have over : ∀ {s' : Shared} {H' : Hp}, Inv (X.blk s3 H3 scope ce fp) ([] ++ pinsAt fp s7.heap) σ8 H' s' → Nx H' → ∃ m, m < n ∧ ∃ i H', Inv (X.blk s3 H3 scope ce fp) [] (wipe σ (own.map (·.2))) H' s' ∧ tn i s'.heap ∧ (∀ b ∈ fp, H' b = none) ∧ W i m H' := fun {s' H'} I' nx => by
        obtain ⟨m', hm, w'⟩ := hNx H' nx
        have pin : ∀ b ∈ fp, ∀ o, s7.heap.get? b = some o → s'.heap.get? b = some o ∧ H' b = none := fun b hb o z =>
          have y := I'.pin (b, o) (List.mem_append_right _ (List.mem_append_right _ (mem_pinsAt hb z)))
          ⟨y.1, y.2.1⟩
        refine ⟨m', hm, i + 1, H', (I'.unpinned (pins := [])).weak (by rw [← hw8, wipe_length]) (fun j v z => by rw [← hw8] at z; exact (wipe_some z).1), T.keep _ _ _ st7 fun b hb o z => (pin b hb o z).1, fun b hb => ?_, w'⟩
        obtain ⟨o, z, _⟩ := T.obj _ _ st7 b hb
        exact (pin b hb o z).2
      cases b with
      | false =>
        simp only [Bool.false_eq_true, if_false] at q9 ⊢
        exact over I9 q9
      | true =>
        simp only [if_true] at q9 ⊢
        refine thnF (j3.run _ s9 σ8 H9 _ I9 q9) fun z s10 ⟨yk, H10, I10, r10, q10⟩ => ?_
        refine thnF (j4.run _ s10 σ8 H10 _ I10 q10) fun z2 s11 ⟨yv, H11, I11, r11, c, kvs, k, ek, hc11, hD11, hz11, nx⟩ => ?_
        subst ek
        exact put_tuple (X := X.blk s3 H3 scope ce fp) hu I11 hD11 hz11 hc11 r10 r11 fun s12 I12 => over I12 nx
  exact codeAny_compStart_dict loop (T.self X.A 0 _ _ _ st4 loop)
theorem pe_dcT {kx vx tg iter : Expr} {ifs : List Expr} {scope : Scope} {own : List (PySem.Str × Nat)} {pos : Pos} {wi : TI} {g : TG} {tt : TT} {tk tv : TE} (hu : X.A.units < cLine) (hc : X.calm = true) (hN : X.N.Nodup) (hi : PI X tg iter wi) (ok : BlkOk X.N X.env.scope scope own)
    (hg : ∀ (s : Shared) (H : Hp) (C : Addr) (cl : List (PySem.Str × Addr)) (fp : List Addr), PG (X.blk s H scope (compEnvC scope cl C X.env) fp) tg g)
    (ht : ∀ (s : Shared) (H : Hp) (C : Addr) (cl : List (PySem.Str × Addr)) (fp : List Addr), PTs (X.blk s H scope (compEnvC scope cl C X.env) fp) ifs tt)
    (hk : ∀ (s : Shared) (H : Hp) (C : Addr) (cl : List (PySem.Str × Addr)) (fp : List Addr), PE (X.blk s H scope (compEnvC scope cl C X.env) fp) kx tk)
    (he : ∀ (s : Shared) (H : Hp) (C : Addr) (cl : List (PySem.Str × Addr)) (fp : List Addr), PE (X.blk s H scope (compEnvC scope cl C X.env) fp) vx tv) (hs : ∀ x, foldedSetIterable iter X.env x = pure x := by intro _; rfl) :
    PE X (.DictComp kx vx [⟨tg, iter, ifs, 0⟩] scope pos) (tDcT wi g tt tk tv (own.map (·.2))) := by
  refine ⟨fun pins s σ H Q I h => ?_⟩
  rw [arm_eval_DictComp]
  refine dcT_core hu hc hN I hi ok hg ht hk he hs h fun D C s' m H' I' q hn f => ⟨m, hn, fun h'' sb => ?_⟩
  obtain ⟨f0, f1, f2, f3, f4, f5⟩ := f
  exact ⟨.ref D, H', I'.turned (t' := s'.toks) (fun b o hb z => (sb.2 b hb).trans z) f0 f1 f3 f4 f5, rfl, q⟩
end
end Oh
namespace Oh
open PySem PySem.Spec PyProof.Rows L2
abbrev sNamesOf : Stmt := top 28
abbrev sPortsOf : Stmt := top 30
abbrev sRInit : Stmt := inClass (top 46) 0
abbrev sREq : Stmt := inClass (top 46) 1
section
variable {P : Program} {w : World} {K : PySem.W.Frag} {mg : Str → Option Value} {base : Heap}
theorem scNamesOf : FnScope ["statement", "head", "row"] ["statement"] (defScope sNamesOf) := ⟨rfl, rfl, rfl, by decide +kernel, rfl, by decide +kernel, by decide +kernel⟩
theorem ok_namesOf {f : Addr} {fd : FuncData} (F : Fun K "names_of" "names_of" sNamesOf f fd) : FnOk P w K mg base CX0 1 f fd ["statement"] spBlocksOf := by
  refine F.ok scNamesOf (fun vs H Q E h => ?_) (fun cdv A outer s H vs Q E hr h => ?_)
  · obtain ⟨p, rfl, _⟩ := h
    rfl
  · obtain ⟨S, rfl, hS, k⟩ := h
    refine ⟨_, pss_cons (ps_set (i := 1) scNamesOf.nd rfl (Or.inl rfl) (pe_ix ix_tup (pv 0) pe_int (fun _ _ => rfl)))
      (pss_cons (ps_if (pt_cmpR op_eq (pv 1) pe_str (nomark _)) pss_never pss_nil)
      (pss_cons (ps_if (pt_cmpR op_eq (pv 1) pe_str (nomark _)) pss_never pss_nil)
      (pss_cons (ps_if (pt_cmpR op_eq (pv 1) pe_str (nomark _)) pss_never pss_nil)
      (pss_cons (ps_if (pt_cmpR op_eq (pv 1) pe_str (nomark _)) pss_never pss_nil)
      (pss_cons (ps_if (pt_cmpR op_eq (pv 1) pe_str (nomark _)) pss_never pss_nil)
      (pss_one (ps_ret (pe_lst pa_nil)))))))), ?_⟩
    refine ⟨_, rfl, S, _, _, _, rfl, rfl, SqT.of hS, rfl, ?_⟩
    refine ⟨_, rfl, rfl, _, rfl, ite2 (fun z => absurd z (by decide)) fun _ => ?_⟩
    refine ⟨_, rfl, rfl, _, rfl, ite2 (fun z => absurd z (by decide)) fun _ => ?_⟩
    refine ⟨_, rfl, rfl, _, rfl, ite2 (fun z => absurd z (by decide)) fun _ => ?_⟩
    refine ⟨_, rfl, rfl, _, rfl, ite2 (fun z => absurd z (by decide)) fun _ => ?_⟩
    refine ⟨_, rfl, rfl, _, rfl, ite2 (fun z => absurd z (by decide)) fun _ => ?_⟩
    exact ⟨by decide, fun p np => k p _ (Same.new np) np upd_same⟩
theorem scPortsOf : FnScope ["statement", "head", "row"] ["statement"] (defScope sPortsOf) := ⟨rfl, rfl, rfl, by decide +kernel, rfl, by decide +kernel, by decide +kernel⟩
theorem ok_portsOf {f : Addr} {fd : FuncData} (F : Fun K "ports_of" "ports_of" sPortsOf f fd) : FnOk P w K mg base CX0 1 f fd ["statement"] spBlocksOf := by
  refine F.ok scPortsOf (fun vs H Q E h => ?_) (fun cdv A outer s H vs Q E hr h => ?_)
  · obtain ⟨p, rfl, _⟩ := h
    rfl
  · obtain ⟨S, rfl, hS, k⟩ := h
    refine ⟨_, pss_cons (ps_set (i := 1) scPortsOf.nd rfl (Or.inl rfl) (pe_ix ix_tup (pv 0) pe_int (fun _ _ => rfl)))
      (pss_cons (ps_if (pw_or (pt_cmpR op_eq (pv 1) pe_str (nomark _)) (pw_or1 (pt_cmpR op_eq (pv 1) pe_str (nomark _)))).pt pss_never pss_nil)
      (pss_cons (ps_if (pt_cmpR op_eq (pv 1) pe_str (nomark _)) pss_never pss_nil)
      (pss_one (ps_ret (pe_lst pa_nil))))), ?_⟩
    refine ⟨_, rfl, S, _, _, _, rfl, rfl, SqT.of hS, rfl, ?_⟩
    refine ⟨_, rfl, rfl, _, rfl, ite2 (fun z => absurd z (by decide)) fun _ => ⟨_, rfl, rfl, _, rfl, ite2 (fun z => absurd z (by decide)) fun _ => ?_⟩⟩
    refine ⟨_, rfl, rfl, _, rfl, ite2 (fun z => absurd z (by decide)) fun _ => ?_⟩
    exact ⟨by decide, fun p np => k p _ (Same.new np) np upd_same⟩
end
/-! ### the error raised -/
/-- self.what = what, the new dict told apart -/
def spEInitN (K : PySem.W.Frag) (f1 : Addr) : Sp := fun vs H Q _ => ∃ (a C : Addr) (v : V), vs = [.ref a, v] ∧ ErrC K f1 C ∧ H a = some (exo a C none) ∧ ∀ d, H d = none → d ≠ a → Q .non (upd (upd H d (exd d [("what", v)])) a (exo a C (some d)))
section
variable {P : Program} {w : World} {K : PySem.W.Frag} {mg : Str → Option Value} {base : Heap} {f1 hBR : Addr}
theorem ok_einitN {fd : FuncData} (F : EInit K f1 fd) : FnOk P w K mg base CX0 1 f1 fd ["self", "what"] (spEInitN K f1) := by
  refine F.ok scEInit (fun vs H Q E h => ?_) (fun cdv A outer s H vs Q E hr h => ?_)
  · obtain ⟨a, C, v, rfl, _⟩ := h
    rfl
  · obtain ⟨a, C, v, rfl, T, ha, k⟩ := h
    refine ⟨_, pss_one (ps_ost (pv 0) (pv 1)), ?_⟩
    exact ⟨_, rfl, _, rfl, a, C, rfl, T.ox, T.no, .inl ⟨ha, fun dx nd ne => k dx nd ne⟩⟩
/-- raise C(e): what its reading asks -/
theorem mko_err {H1 : Hp} {v : V} {C : Addr} {Q : XK} (T : ErrC K f1 C) (q : ∀ d, H1 d = none → Q (.ref C) (some d) (upd H1 d (.xd [("what", v)]))) :
    ([v] : List V).length ≤ 1000 ∧ ∀ a, H1 a = none → spEInitN K f1 (.ref a :: ([v] ++ [])) (upd H1 a (exo a C none))
      (fun u H2 => u = .non ∧ ∃ (d : Addr) (fs : List (Str × V)), H2 a = some (exo a C (some d)) ∧ H2 d = some (exd d fs) ∧ H1 d = none ∧ Q (.ref C) (some d) (upd (del H2 a) d (.xd fs))) (fun _ _ _ => False) := by
  refine ⟨by show 1 ≤ 1000; decide, fun a na => ⟨a, C, v, rfl, T, upd_same, fun d nd ne => ?_⟩⟩
  have nd' : H1 d = none := by rw [upd_ne ne] at nd; exact nd
  refine ⟨rfl, d, _, upd_same, by rw [upd_ne ne]; exact upd_same, nd', ?_⟩
  have e : upd (del (upd (upd (upd H1 a (exo a C none)) d (exd d [("what", v)])) a (exo a C (some d))) a) d (.xd [("what", v)]) = upd H1 d (.xd [("what", v)]) := by
    funext b
    by_cases hb : b = d
    · subst hb
      rw [upd_same, upd_same]
    · rw [upd_ne hb, upd_ne hb]
      by_cases ha : b = a
      · subst ha
        rw [del_same, na]
      · rw [del_ne ha, upd_ne ha, upd_ne hb, upd_ne ha]
  rw [e]
  exact q d nd'
/-- raise C(e) -/
theorem ps_raiseE {X : Cx} {W : WX} {x : Str} {C : Addr} {fd : FuncData} {e : Expr} {te : TE} {p pos pos2 : Pos} (hc : X.calm = true) (tk : Takes X W) (T : ErrC X.K f1 C) (tI : PySem.W.typeIn X.K (.ref f1) = some (.type "function"))
    (F1 : FnOk X.prog X.w X.K X.mg X.base CX0 1 f1 fd ["self", "what"] (spEInitN X.K f1)) (hr : Room 2 X.A) (hb : Binds X.K fd ["self", "what"] []) (hm : X.mg x = some (.ref C)) (he : PE X e te) (hg : Gl X x := by rfl) (hdb : (x == ("__debug__" : Str)) = false := by decide)
    (h1 : starEach [e] X.env = (false, eval e X.env) :: starEach [] X.env := by rfl) (hpl : (backTo pos (starEach [] X.env)).any (·.1) = false := by rfl) :
    PS X (.Raise (some (.Call (.Name x p) [e] [] pos)) none pos2) (fun _ σ H => tMkO C (spEInitN X.K f1) [] (tCons te tNil) σ H fun cls d H' => W cls d σ H') :=
  ps_raise (pos := pos2) hc tk (pmk_oex (p := p) (pos := pos) T.ox T.ini tI F1 hr hb .nil pass0 hg hm (pa_cons he pa_nil h1) hdb h1 hpl)
/-- what is due of a block: the block of home alone goes, a list is refused with () -/
def spCheck (hBR : Addr) : Sp := fun vs H Q E => ∃ B, vs = [.ref B] ∧ ((∃ S, HomeB H B S ∧ ∀ H', Same H H' → Q .non H') ∨
  ∃ xs, H B = some (.lst xs) ∧ ∀ d q H', Same H H' → H' d = some (.xd [("what", .ref q)]) → H' q = some (.tup []) → E (.ref hBR) (some d) H')
theorem scCheck : FnScope ["block", "wrong"] ["block"] (defScope sCheck) := ⟨rfl, rfl, rfl, by decide +kernel, rfl, by decide +kernel, by decide +kernel⟩
theorem ok_check {f fI fW fC : Addr} {fd fd1 fdI fdW fdC : FuncData} (F : Fun K "_check" "_check" sCheck f fd) (T : TxtP mg) (TE : ErrC K f1 hBR) (t1 : PySem.W.typeIn K (.ref f1) = some (.type "function")) (FE : EInit K f1 fd1) (mB : mg "BadRoutine" = some (.ref hBR))
    (GI : FnOk P w K mg base CX0 1 fI fdI ["value"] spIsBlock) (kI : PySem.W.keepIn K (.ref fI) = true) (bI : Binds K fdI ["value"] []) (mI : mg "is_block" = some (.ref fI))
    (GW : FnOk P w K mg base CX0 5 fW fdW ["block", "path", "depth", "in_repeat"] spFirst) (kW : PySem.W.keepIn K (.ref fW) = true) (bW : Binds K fdW ["block", "path", "depth", "in_repeat"] []) (mW : mg "first_wrong" = some (.ref fW))
    (GC : FnOk P w K mg base CX0 4 fC fdC ["block"] spCount) (kC : PySem.W.keepIn K (.ref fC) = true) (bC : Binds K fdC ["block"] []) (mC : mg "count_statements" = some (.ref fC)) :
    FnOk P w K mg base (L2.CX P w) 6 f fd ["block"] (spCheck hBR) := by
  refine F.okX scCheck (fun vs H Q E h => ?_) (fun cdv A outer s H vs Q E hr h => ?_)
  · obtain ⟨B, rfl, _⟩ := h
    rfl
  · obtain ⟨B, rfl, h⟩ := h
    have hr1 : Room 1 _ := hr.mono (by decide)
    have hr2 : Room 2 _ := hr.mono (by decide)
    have hr4 : Room 4 _ := hr.mono (by decide)
    obtain ⟨t, mm⟩ := T.most
    have GE : FnOk P w K mg base CX0 1 f1 fd1 ["self", "what"] (spEInitN K f1) := ok_einitN FE
    have bE := b_einit2 FE
    refine ⟨_, pss_cons (ps_if (pt_not (pt_val (pe_call GI hr1 (by rfl) mI kI bI .nil pass0 (pa_cons (pv 0) pa_nil)))) (pss_one (ps_raiseE rfl (takes_of rfl rfl rfl rfl) TE t1 GE hr2 bE mB (pe_tup pa_nil))) pss_nil)
      (pss_cons (ps_set (i := 1) scCheck.nd rfl (Or.inl rfl) (pe_call GW hr (by rfl) mW kW bW .nil pass0 (pa_cons (pv 0) (pa_cons (pe_tup pa_nil) (pa_cons pe_int (pa_cons pe_bl pa_nil))))))
      (pss_cons (ps_if (pt_cmpR op_notN (pv 1) pe_non (nomark _)) pss_never pss_nil)
      (pss_one (ps_if (pt_cmpR op_gt (pe_call GC hr4 (by rfl) mC kC bC .nil pass0 (pa_cons (pv 0) pa_nil)) (pe_glob (v := .int 6000) (by rfl) mm ⟨t, rfl⟩) (nomark _)) pss_never pss_nil)))), ?_⟩
    rcases h with ⟨S, hB, k⟩ | ⟨xs, hB, k⟩
    · refine ⟨_, rfl, B, rfl, .inl ⟨_, hB.1, (by show 1 ≤ 12; decide), ⟨_, rfl, iteF ?_⟩⟩⟩
      refine ⟨_, rfl, by decide, fun q nq => ?_⟩
      have s1 : Same H (upd H q (.tup [])) := Same.new nq
      refine ⟨B, S, q, rfl, hB.keep s1, upd_same, fun H2 s2 => ?_⟩
      refine ⟨_, rfl, rfl, _, rfl, iteF ?_⟩
      refine ⟨_, rfl, B, S, rfl, hB.keep (s1.trans s2), fun H3 s3 => ⟨_, _, rfl, rfl, _, rfl, ite2 (fun z => absurd z (by decide)) fun _ => ?_⟩⟩
      exact k H3 (s1.trans (s2.trans s3))
    · refine ⟨_, rfl, B, rfl, .inr ⟨xs, hB, ⟨_, rfl, iteT ?_⟩⟩⟩
      refine ⟨by decide, fun q nq => ?_⟩
      have s1 : Same H (upd H q (.tup [])) := Same.new nq
      exact mko_err TE fun d nd => k d q _ (s1.trans (Same.new nd)) upd_same ((Same.new nd) _ _ upd_same)
end
end Oh
namespace Oh
open PySem PySem.Spec PyProof.Rows L2 PpSet
/-- what is due of a block: nothing, or the error's `what` -/
def dueB (d : DT) : Option OPath := if blockB d = false then some (some []) else match firstB 11 d [] false with
  | some w => some (some w)
  | none => if countB 11 d > 6000 then some none else none
def spCheckD (K : PySem.W.Frag) (hBR : Addr) : Sp := fun vs H Q E => ∃ v d, vs = [v] ∧ Rp K H v d ∧ (dueB d = none → ∀ H', Same H H' → Q .non H') ∧
  ∀ w, dueB d = some w → ∀ (e : Addr) (u : V) H', Same H H' → H' e = some (.xd [("what", u)]) → PathOr H' u w → E (.ref hBR) (some e) H'
theorem due_none {d : DT} (h : dueB d = none) : blockB d = true ∧ goodB 11 d = true ∧ countB 11 d ≤ 6000 := by
  unfold dueB at h
  cases hb : blockB d with
  | false => rw [hb, if_pos rfl] at h; cases h
  | true =>
    rw [hb, if_neg (by decide)] at h
    cases hf : firstB 11 d [] false with
    | some w => rw [hf] at h; cases h
    | none =>
      rw [hf] at h
      refine ⟨rfl, first_good 11 d [] false (by decide) hb hf, ?_⟩
      by_cases c : countB 11 d > 6000
      · rw [show (match (none : Option (List Nat)) with | some w => some (some w) | none => if countB 11 d > 6000 then some none else none) = if countB 11 d > 6000 then some (none : OPath) else none from rfl, if_pos c] at h
        cases h
      · omega
section
variable {P : Program} {w : World} {K : PySem.W.Frag} {mg : Str → Option Value} {base : Heap} {f1 hBR : Addr}
theorem ok_checkD {f fI fW fC : Addr} {fd fd1 fdI fdW fdC : FuncData} (F : Fun K "_check" "_check" sCheck f fd) (T : TxtP mg) (TE : ErrC K f1 hBR) (t1 : PySem.W.typeIn K (.ref f1) = some (.type "function")) (FE : EInit K f1 fd1) (mB : mg "BadRoutine" = some (.ref hBR))
    (GI : FnOk P w K mg base CX0 1 fI fdI ["value"] (spB K blockB)) (kI : PySem.W.keepIn K (.ref fI) = true) (bI : Binds K fdI ["value"] []) (mI : mg "is_block" = some (.ref fI))
    (GW : FnOk P w K mg base CX0 35 fW fdW ["block", "path", "depth", "in_repeat"] (spFirstD K 11)) (kW : PySem.W.keepIn K (.ref fW) = true) (bW : Binds K fdW ["block", "path", "depth", "in_repeat"] []) (mW : mg "first_wrong" = some (.ref fW))
    (GC : FnOk P w K mg base CX0 13 fC fdC ["block"] (spCountD K 11)) (kC : PySem.W.keepIn K (.ref fC) = true) (bC : Binds K fdC ["block"] []) (mC : mg "count_statements" = some (.ref fC)) :
    FnOk P w K mg base (L2.CX P w) 36 f fd ["block"] (spCheckD K hBR) := by
  refine F.okX scCheck (fun vs H Q E h => ?_) (fun cdv A outer s H vs Q E hr h => ?_)
  · obtain ⟨v, d, rfl, _⟩ := h
    rfl
  · obtain ⟨v, d, rfl, r, k, kx⟩ := h
    have hr1 : Room 1 _ := hr.mono (by decide)
    have hr2 : Room 2 _ := hr.mono (by decide)
    have hr4 : Room 13 _ := hr.mono (by decide)
    obtain ⟨t, mm⟩ := T.most
    have GE : FnOk P w K mg base CX0 1 f1 fd1 ["self", "what"] (spEInitN K f1) := ok_einitN FE
    have bE := b_einit2 FE
    refine ⟨_, pss_cons (ps_if (pt_not (pt_val (pe_call GI hr1 (by rfl) mI kI bI .nil pass0 (pa_cons (pv 0) pa_nil)))) (pss_one (ps_raiseE rfl (takes_of rfl rfl rfl rfl) TE t1 GE hr2 bE mB (pe_tup pa_nil))) pss_nil)
      (pss_cons (ps_set (i := 1) scCheck.nd rfl (Or.inl rfl) (pe_call GW hr (by rfl) mW kW bW .nil pass0 (pa_cons (pv 0) (pa_cons (pe_tup pa_nil) (pa_cons pe_int (pa_cons pe_bl pa_nil))))))
      (pss_cons (ps_if (pt_cmpR op_notN (pv 1) pe_non (nomark _)) (pss_one (ps_raiseE rfl (takes_of rfl rfl rfl rfl) TE t1 GE hr2 bE mB (pv 1))) pss_nil)
      (pss_one (ps_if (pt_cmpR op_gt (pe_call GC hr4 (by rfl) mC kC bC .nil pass0 (pa_cons (pv 0) pa_nil)) (pe_glob (v := .int 6000) (by rfl) mm ⟨t, rfl⟩) (nomark _)) (pss_one (ps_raiseE rfl (takes_of rfl rfl rfl rfl) TE t1 GE hr2 bE mB pe_non)) pss_nil)))), ?_⟩
    refine ⟨_, rfl, v, d, rfl, r, fun H1 s1 => ?_⟩
    cases hb : blockB d with
    | false =>
      have due : dueB d = some (some []) := by unfold dueB; rw [if_pos hb]
      refine ⟨_, rfl, iteT ?_⟩
      refine ⟨by decide, fun q nq => ?_⟩
      have s2 : Same H (upd H1 q (.tup [])) := s1.trans (Same.new nq)
      exact mko_err TE fun e ne => kx _ due e (.ref q) _ (s2.trans (Same.new ne)) upd_same ⟨q, rfl, (Same.new ne) _ _ upd_same⟩
    | true =>
      refine ⟨_, rfl, iteF ?_⟩
      refine ⟨_, rfl, by decide, fun q nq => ?_⟩
      have s2 : Same H (upd H1 q (.tup [])) := s1.trans (Same.new nq)
      refine ⟨v, d, q, [], 1, false, rfl, rfl, r.keep s2, hb, upd_same, by decide, fun u H3 s3 hu => ?_⟩
      have s03 := s2.trans s3
      refine ⟨_, rfl, ?_⟩
      cases hf : firstB 11 d [] false with
      | some wp =>
        rw [hf] at hu
        have due : dueB d = some (some wp) := by unfold dueB; rw [hb, if_neg (by decide), hf]
        obtain ⟨pp, rfl, hpp⟩ := hu
        refine ⟨rfl, _, rfl, ite2 (fun _ => ?_) (fun z => absurd rfl z)⟩
        exact ⟨_, rfl, mko_err TE fun e ne => kx _ due e (.ref pp) _ (s03.trans (Same.new ne)) upd_same ⟨pp, rfl, (Same.new ne) _ _ hpp⟩⟩
      | none =>
        rw [hf] at hu
        obtain rfl : u = .non := hu
        have hg := first_good 11 d [] false (by decide) hb hf
        refine ⟨rfl, _, rfl, iteF ?_⟩
        refine ⟨_, rfl, v, d, rfl, r.keep s03, hg, fun H4 s4 => ⟨_, _, rfl, rfl, _, rfl, ?_⟩⟩
        by_cases c : countB 11 d > 6000
        · have due : dueB d = some none := by unfold dueB; rw [hb, if_neg (by decide), hf]; exact if_pos c
          refine ite2 (fun _ => ?_) (fun z => absurd (decide_eq_true (show (6000 : Int) < countB 11 d by omega)) z)
          exact mko_err TE fun e ne => kx _ due e .non _ ((s03.trans s4).trans (Same.new ne)) upd_same rfl
        · have due : dueB d = none := by unfold dueB; rw [hb, if_neg (by decide), hf]; exact if_neg c
          refine ite2 (fun z => absurd (of_decide_eq_true z) (by omega)) fun _ => ?_
          exact k due H4 (s03.trans s4)
end
end Oh
namespace Oh
open PySem PySem.Spec PyProof.Rows L2
/-- a routine over the block at B -/
def RoutH (H : Hp) (hR r B : Addr) : Prop := ∃ (dx : Addr) (fs : List (Str × V)), H r = some (.ins hR dx fs) ∧ fs.lookup ("block" : Str) = some (V.ref B)
def spInit (hR hBR : Addr) : Sp := fun vs H Q E => ∃ r B dx, vs = [.ref r, .ref B] ∧ r ≠ B ∧ H r = some (.ins hR dx []) ∧ ((∃ S, HomeB H B S ∧ ∀ H', (∀ b o, H b = some o → b ≠ r → H' b = some o) → RoutH H' hR r B → Q .non H') ∨
  ∃ xs, H B = some (.lst xs) ∧ ∀ d q H', Same H H' → H' d = some (.xd [("what", .ref q)]) → H' q = some (.tup []) → E (.ref hBR) (some d) H')
abbrev nIn : List Str := ["self", "block", "rows", "row", "name", "port"]
theorem scRInit : FnScope nIn ["self", "block"] (defScope sRInit) := ⟨rfl, rfl, rfl, by decide +kernel, rfl, by decide +kernel, by decide +kernel⟩
theorem boot_sorted : bootBuiltins "sorted" = some (.builtin "sorted") := by decide +kernel
/-- a dict comprehension, its keys tuples, over a walk -/
theorem dc_it {J : It} {n : Nat} {G : Hp → Prop} {Y : Nat → Hp → V → Hp → Prop} (w : Walk J n G Y) {g : TG} {tt : TT} {tk tv : TE} {vs : List Nat} {σ : L2.St} {H1 : Hp} {D : Addr} {Qd : Hp → Prop} (Pv : Nat → Hp → Prop) (h0 : Pv 0 (upd H1 D (.dT []))) (hG : ∀ i H, i ≤ n → Pv i H → G H)
    (hs : ∀ i x H H', i < n → Pv i H → Y i H x H' → g x (wipe σ vs) H' fun σ2 H2 => wipe σ2 vs = wipe σ vs ∧ tt σ2 H2 fun b H3 =>
      if b = true then tk σ2 H3 fun y H4 => tv σ2 H4 fun z H5 => ∃ (c : Addr) (kvs : List (List L2.Key × V)) (k : List L2.Key), y = .ref c ∧ H5 c = some (.tup (k.map kV)) ∧ H5 D = some (.dT kvs) ∧ kvs.length < sizeLine ∧ Pv (i + 1) (upd H5 D (.dT (putK kvs k z))) else Pv (i + 1) H3) (hd : ∀ H, Pv n H → Qd H) :
    ∃ W : Nat → Nat → Hp → Prop, (∃ m, W 0 m (upd H1 D (.dT []))) ∧ ∀ i m H, W i m H →
      (J.stop i H ∧ Qd H) ∨ (J.go i H ∧ ∃ Nx : Hp → Prop, (∀ H', Nx H' → ∃ m', m' < m ∧ W (i + 1) m' H') ∧ ∀ x H', J.yld i H x H' → g x (wipe σ vs) H' fun σ2 H2 => wipe σ2 vs = wipe σ vs ∧ tt σ2 H2 fun b H3 =>
        if b = true then tk σ2 H3 fun y H4 => tv σ2 H4 fun z H5 => ∃ (c : Addr) (kvs : List (List L2.Key × V)) (k : List L2.Key), y = .ref c ∧ H5 c = some (.tup (k.map kV)) ∧ H5 D = some (.dT kvs) ∧ kvs.length < sizeLine ∧ Nx (upd H5 D (.dT (putK kvs k z))) else Nx H3) := by
  refine ⟨fun i m H => m = n - i ∧ i ≤ n ∧ Pv i H, ⟨n, by simp, Nat.zero_le _, h0⟩, ?_⟩
  rintro i m H ⟨rfl, hi, p⟩
  have q := hG i H hi p
  by_cases hlt : i < n
  · exact .inr ⟨w.goes i H hlt q, Pv (i + 1), fun H' p' => ⟨n - (i + 1), by omega, rfl, hlt, p'⟩, fun x H' y => hs i x H H' hlt p (w.yields i H x H' hlt q y)⟩
  · have e : i = n := by omega
    subst e
    exact .inl ⟨w.stops H q, hd H p⟩
theorem ixT_at {K : PySem.W.Frag} {σ : L2.St} {H : Hp} {Q : VK} {R : Addr} {xs : List V} {x : V} {j : Int} {i : Nat} (h3 : σ[i]? = some (some (.ref R))) (hR : H R = some (.tup xs)) (e : atI xs j = some x) (q : Q x H) : tOp (rIxT K) (tVar i) (tC (.int j)) σ H Q :=
  ⟨_, h3, R, _, _, _, rfl, rfl, SqT.of hR, e, q⟩
/-- the dict of the one row -/
theorem dc_one {K : PySem.W.Frag} {s0 s1 s3 s4 s5 : Option V} {H : Hp} {Q : VK} {L R T S : Addr} {j : Int} {x : V} (la : LaidAt H L R T S) (e : atI [.ref T, .ref S, .non] j = some x) (k : ∀ D H', H D = none → Same H H' → Q (.ref D) H') :
    tDcT (iList K (tVar 2)) (gName 3) tYes (tOp (rIxT K) (tVar 3) (tC (.int 0))) (tOp (rIxT K) (tVar 3) (tC (.int j))) [3] [s0, s1, some (.ref L), s3, s4, s5] H Q := by
  refine ⟨_, rfl, L, rfl, ⟨_, SqL.of la.1⟩, fun D nD => dc_it (walk_list (xs := [V.ref R])) (fun i H' => Same H H' ∧ (i = 0 → H' D = some (.dT []))) ⟨Same.new nD, fun _ => upd_same⟩ (fun i H' _ q => SqL.of (q.1 _ _ la.1)) ?_ ?_⟩
  · rintro i y H1 H2 hi ⟨sm, hD⟩ ⟨e2, ey⟩
    subst e2
    obtain rfl : i = 0 := by have : i < 1 := hi; omega
    obtain rfl := Option.some.inj ey
    refine ⟨rfl, ?_⟩
    refine ixT_at (i := 3) rfl (sm _ _ la.2.1) rfl (ixT_at (i := 3) rfl (sm _ _ la.2.1) e ⟨T, [], [.inl 0], rfl, sm _ _ la.2.2, hD rfl, (by show 0 < sizeLine; decide), fun b o eb => ?_, fun z => absurd z (by decide)⟩)
    rw [upd_ne (ne_of_none eb nD)]
    exact sm b o eb
  · rintro H' ⟨sm, _⟩
    exact k D H' nD sm
/-- a set comprehension that adds nothing, over one row -/
theorem sc_one {K : PySem.W.Frag} {w : World} {s0 s1 s3 s4 s5 : Option V} {H : Hp} {Q : VK} {L R T S : Addr} {c : Nat} (hc : c = 4 ∨ c = 5) (la : LaidAt H L R T S) (hS : HomeS H S) (k : ∀ D H', H D = none → Same H H' → H' D = some (SetO w D (fun _ => false) 0) → Q (.ref D) H') :
    tSc2 (fun D => SetO w D (fun _ => false) 0) (fun _ _ _ _ => False) (iList K (tVar 2)) (gName 3) tYes (iList K (tCall spBlocksOf [] E0 (tCons (tOp (rIxT K) (tVar 3) (tC (.int 1))) tNil))) (gName c) tYes (fun _ _ _ => False) [3, c] [c] [s0, s1, some (.ref L), s3, s4, s5] H Q := by
  refine ⟨_, rfl, L, rfl, ⟨_, SqL.of la.1⟩, fun D nD => ⟨fun i m H' => m = 1 - i ∧ i ≤ 1 ∧ Same H H' ∧ H' D = some (SetO w D (fun _ => false) 0), ⟨1, rfl, Nat.zero_le _, Same.new nD, upd_same⟩, ?_⟩⟩
  rintro i m H1 ⟨rfl, hi, sm, hD⟩
  by_cases e : i = 1
  · subst e
    exact .inl ⟨⟨_, SqL.of (sm _ _ la.1), Nat.le_refl _⟩, k D H1 nD sm hD⟩
  · obtain rfl : i = 0 := by omega
    refine .inr ⟨⟨_, V.ref R, SqL.of (sm _ _ la.1), rfl⟩, fun H' => Same H H' ∧ H' D = some (SetO w D (fun _ => false) 0), fun H' q => ⟨0, by decide, rfl, Nat.le_refl _, q⟩, fun x H' y => ?_⟩
    obtain ⟨e2, ex⟩ := y
    subst e2
    have ex : some (V.ref R) = some x := ex _ (SqL.of (sm _ _ la.1))
    obtain rfl := Option.some.inj ex
    rcases hc with rfl | rfl
    all_goals
      refine ⟨rfl, ?_⟩
      refine ixT_at (i := 3) rfl (sm _ _ la.2.1) rfl ⟨S, rfl, sm _ _ hS, fun E H4 h4 nE eE => ⟨E, rfl, ⟨_, SqL.of eE⟩, ?_⟩⟩
      exact ⟨fun j _ Hj => j = 0 ∧ Hj = H4, ⟨0, rfl, rfl⟩, fun j kk Hj ⟨ej, eH⟩ => .inl ⟨⟨[], by rw [eH]; exact SqL.of eE, Nat.zero_le _⟩, by rw [eH]; exact ⟨sm.trans h4, h4 _ _ hD⟩⟩⟩
/-- what the class of routines has -/
structure RCls (K : PySem.W.Frag) (hR : Addr) : Prop where
  cl : Cls K hR
  n1 : NoAttr K hR "block"
  n2 : NoAttr K hR "_statements"
  n3 : NoAttr K hR "_followers"
  n4 : NoAttr K hR "_names"
  n5 : NoAttr K hR "_ports"
/-- the new routine while its attributes are set -/
structure Pk (H0 : Hp) (hR r B L R T S : Addr) (n : Nat) (Hn : Hp) : Prop where
  ex : ∃ (dx : Addr) (fs : List (Str × V)), Hn r = some (.ins hR dx fs) ∧ fs.length ≤ n ∧ fs.lookup ("block" : Str) = some (V.ref B)
  la : LaidAt Hn L R T S
  ho : HomeS Hn S
  sb : ∀ b o, H0 b = some o → b ≠ r → Hn b = some o
theorem Pk.same {H0 : Hp} {hR r B L R T S : Addr} {n : Nat} {Hn Hm : Hp} (p : Pk H0 hR r B L R T S n Hn) (s : Same Hn Hm) : Pk H0 hR r B L R T S n Hm := by
  obtain ⟨dx, fs, h1, h2, h3⟩ := p.ex
  exact ⟨⟨dx, fs, s _ _ h1, h2, h3⟩, ⟨s _ _ p.la.1, s _ _ p.la.2.1, s _ _ p.la.2.2⟩, s _ _ p.ho, fun b o e nb => s _ _ (p.sb b o e nb)⟩
theorem Pk.put {H0 : Hp} {hR r B L R T S dx : Addr} {fs : List (Str × V)} {n : Nat} {Hn : Hp} {f : Str} {y : V} (p : Pk H0 hR r B L R T S n Hn) (hf : f ≠ "block") (h1 : Hn r = some (.ins hR dx fs)) (h2 : fs.length ≤ n) (h3 : fs.lookup ("block" : Str) = some (V.ref B)) :
    Pk H0 hR r B L R T S (n + 1) (upd Hn r (.ins hR dx (putF f y fs))) := by
  have nL : L ≠ r := fun z => by subst z; cases h1.symm.trans p.la.1
  have nR : R ≠ r := fun z => by subst z; cases h1.symm.trans p.la.2.1
  have nT : T ≠ r := fun z => by subst z; cases h1.symm.trans p.la.2.2
  have nS : S ≠ r := fun z => by subst z; cases h1.symm.trans (show Hn S = some (.tup [.str "home"]) from p.ho)
  refine ⟨⟨dx, _, upd_same, ?_, ?_⟩, ⟨by rw [upd_ne nL]; exact p.la.1, by rw [upd_ne nR]; exact p.la.2.1, by rw [upd_ne nT]; exact p.la.2.2⟩, by show upd _ _ _ S = _; rw [upd_ne nS]; exact p.ho, fun b o e nb => by rw [upd_ne nb]; exact p.sb b o e nb⟩
  · have := length_putF f y fs
    omega
  · rw [lookup_putF, if_neg (fun z => hf z.symm)]
    exact h3
section
variable {P : Program} {w : World} {K : PySem.W.Frag} {mg : Str → Option Value} {base : Heap} {hR hBR : Addr}
theorem ok_rinit {f fC fL fN fP : Addr} {fd fdC fdL fdN fdP : FuncData} (F : Fun K "__init__" "Routine.__init__" sRInit f fd) (T : RCls K hR) (mso : mg "sorted" = none)
    (GC : FnOk P w K mg base (L2.CX P w) 6 fC fdC ["block"] (spCheck hBR)) (kC : PySem.W.keepIn K (.ref fC) = true) (bC : Binds K fdC ["block"] []) (mC : mg "_check" = some (.ref fC))
    (GL : FnOk P w K mg base CX0 2 fL fdL ["block", "path", "behind", "outside"] spLaid) (kL : PySem.W.keepIn K (.ref fL) = true) (bL : Binds K fdL ["block", "path", "behind", "outside"] []) (mL : mg "laid_out" = some (.ref fL))
    (GN : FnOk P w K mg base CX0 1 fN fdN ["statement"] spBlocksOf) (kN : PySem.W.keepIn K (.ref fN) = true) (bN : Binds K fdN ["statement"] []) (mN : mg "names_of" = some (.ref fN))
    (GP : FnOk P w K mg base CX0 1 fP fdP ["statement"] spBlocksOf) (kP : PySem.W.keepIn K (.ref fP) = true) (bP : Binds K fdP ["statement"] []) (mP : mg "ports_of" = some (.ref fP)) :
    FnOk P w K mg base (L2.CX P w) 7 f fd ["self", "block"] (spInit hR hBR) := by
  refine F.okX scRInit (fun vs H Q E h => ?_) (fun cdv A outer s H vs Q E hr h => ?_)
  · obtain ⟨r, B, dx, rfl, _⟩ := h
    rfl
  · obtain ⟨r, B, dx, rfl, hrB, hr0, h⟩ := h
    have hr1 : Room 1 _ := hr.mono (by decide)
    have hr2 : Room 2 _ := hr.mono (by decide)
    have hu := hu_of hr1
    refine ⟨_, pss_cons (ps_expr (pe_call GC hr (by rfl) mC kC bC .nil (passes_call (takes_of rfl rfl rfl rfl) (fun _ _ _ _ h => h)) (pa_cons (pv 1) pa_nil)))
      (pss_cons (ps_fld (pv 0) (pv 1) rfl)
      (pss_cons (ps_set (i := 2) scRInit.nd rfl (Or.inl rfl) (pe_call GL hr2 (by rfl) mL kL bL .nil pass0 (pa_cons (pv 1) (pa_cons (pe_tup pa_nil) (pa_cons pe_non (pa_cons pe_non pa_nil))))))
      (pss_cons (ps_fld (pv 0) (pe_dcT (own := [("row", 3)]) (g := gName 3) (tt := tYes) (tk := tOp (rIxT K) (tVar 3) (tC (.int 0))) (tv := tOp (rIxT K) (tVar 3) (tC (.int 1))) (Nat.lt_of_succ_lt hu) rfl scRInit.nd (pi_list (pv 2)) (blkOk_by (N := nIn) (sc := defScope sRInit) (by decide +kernel)) (fun _ _ _ _ _ => pg_name (i := 3) scRInit.nd rfl (Or.inl rfl)) (fun _ _ _ _ _ => pts_nil)
          (fun _ _ _ _ _ => pe_ix ix_tup (pv 3) pe_int (fun _ _ => rfl)) (fun _ _ _ _ _ => pe_ix ix_tup (pv 3) pe_int (fun _ _ => rfl))) rfl)
      (pss_cons (ps_fld (pv 0) (pe_dcT (own := [("row", 3)]) (g := gName 3) (tt := tYes) (tk := tOp (rIxT K) (tVar 3) (tC (.int 0))) (tv := tOp (rIxT K) (tVar 3) (tC (.int 2))) (Nat.lt_of_succ_lt hu) rfl scRInit.nd (pi_list (pv 2)) (blkOk_by (N := nIn) (sc := defScope sRInit) (by decide +kernel)) (fun _ _ _ _ _ => pg_name (i := 3) scRInit.nd rfl (Or.inl rfl)) (fun _ _ _ _ _ => pts_nil)
          (fun _ _ _ _ _ => pe_ix ix_tup (pv 3) pe_int (fun _ _ => rfl)) (fun _ _ _ _ _ => pe_ix ix_tup (pv 3) pe_int (fun _ _ => rfl))) rfl)
      (pss_cons (ps_fld (pv 0) (pe_callB (cr_sortedSet rfl) (by rfl) mso boot_sorted (pa_cons
          (pe_sc2 (own := [("row", 3), ("name", 4)]) (vs1 := [4]) (g := gName 3) (tt := tYes) (g1 := gName 4) (tt1 := tYes) (wi1 := iList K (tCall spBlocksOf [] E0 (tCons (tOp (rIxT K) (tVar 3) (tC (.int 1))) tNil))) (te := fun _ _ _ => False) (kind0 P w) rfl scRInit.nd (pi_list (pv 2))
            (blkOk_by (N := nIn) (sc := defScope sRInit) (by decide +kernel)) (by decide +kernel) (fun _ _ _ _ _ => pg_name (i := 3) scRInit.nd rfl (Or.inl rfl)) (fun _ _ _ _ _ => pts_nil)
            (fun _ _ _ _ _ => pi_list (by exact (pe_call GN hr1 (by rfl) mN kN bN .nil pass0 (pa_cons (pe_ix ix_tup (pv 3) pe_int (fun _ _ => rfl)) pa_nil)))) (fun _ _ _ _ _ => pg_name (i := 4) scRInit.nd rfl (Or.inl rfl)) (fun _ _ _ _ _ => pts_nil) (fun _ _ _ _ _ => pe_never)) pa_nil)) rfl)
      (pss_one (ps_fld (pv 0) (pe_callB (cr_sortedSet rfl) (by rfl) mso boot_sorted (pa_cons
          (pe_sc2 (own := [("row", 3), ("port", 5)]) (vs1 := [5]) (g := gName 3) (tt := tYes) (g1 := gName 5) (tt1 := tYes) (wi1 := iList K (tCall spBlocksOf [] E0 (tCons (tOp (rIxT K) (tVar 3) (tC (.int 1))) tNil))) (te := fun _ _ _ => False) (kind0 P w) rfl scRInit.nd (pi_list (pv 2))
            (blkOk_by (N := nIn) (sc := defScope sRInit) (by decide +kernel)) (by decide +kernel) (fun _ _ _ _ _ => pg_name (i := 3) scRInit.nd rfl (Or.inl rfl)) (fun _ _ _ _ _ => pts_nil)
            (fun _ _ _ _ _ => pi_list (by exact (pe_call GP hr1 (by rfl) mP kP bP .nil pass0 (pa_cons (pe_ix ix_tup (pv 3) pe_int (fun _ _ => rfl)) pa_nil)))) (fun _ _ _ _ _ => pg_name (i := 5) scRInit.nd rfl (Or.inl rfl)) (fun _ _ _ _ _ => pts_nil) (fun _ _ _ _ _ => pe_never)) pa_nil)) rfl))))))), ?_⟩
    rcases h with ⟨S, hB, k⟩ | ⟨xs, hB, k⟩
    · refine ⟨_, rfl, B, rfl, .inl ⟨S, hB, fun H1 s1 => ?_⟩⟩
      have h1 := s1 _ _ hr0
      have hB1 := hB.keep s1
      have nS : S ≠ r := fun z => by subst z; cases hr0.symm.trans (show H S = some (.tup [.str "home"]) from hB.2)
      refine ⟨_, rfl, _, rfl, r, hR, dx, [], rfl, h1, T.cl, T.n1, by decide, ?_⟩
      have hB2 : HomeB (upd H1 r (.ins hR dx (putF "block" (V.ref B) []))) B S := ⟨by rw [upd_ne (Ne.symm hrB)]; exact hB1.1, by show upd _ _ _ S = _; rw [upd_ne nS]; exact hB1.2⟩
      refine ⟨_, rfl, by decide, fun p np => ⟨B, S, p, rfl, hB2.keep (Same.new np), upd_same, fun L R T0 H3 s3 la nL nR nT => ?_⟩⟩
      have pk : Pk H hR r B L R T0 S 1 H3 := by
        refine Pk.same (Hn := H3) ⟨⟨dx, _, s3 _ _ ((Same.new np) _ _ upd_same), (by show 1 ≤ 1; decide), rfl⟩, la, s3 _ _ ((Same.new np) _ _ hB2.2), fun b o e nb => s3 _ _ ((Same.new np) _ _ (by rw [upd_ne nb]; exact s1 _ _ e))⟩ (Same.refl H3)
      dsimp only [tSeq, gName, sFld]
      refine dc_one (j := 1) (x := .ref S) pk.la rfl ?_
      intro D4 H4 n4 s4
      obtain ⟨dx9, fs9, a1, a2, a3⟩ := (pk.same s4).ex
      refine ⟨_, rfl, r, hR, dx9, fs9, rfl, a1, T.cl, T.n2, by omega, ?_⟩
      have p5 := (pk.same s4).put (f := "_statements") (y := .ref D4) (by decide) a1 a2 a3
      refine dc_one (j := 2) (x := .non) p5.la rfl ?_
      intro D6 H6 n6 s6
      obtain ⟨dx9, fs9, a1, a2, a3⟩ := (p5.same s6).ex
      refine ⟨_, rfl, r, hR, dx9, fs9, rfl, a1, T.cl, T.n3, by omega, ?_⟩
      have p7 := (p5.same s6).put (f := "_followers") (y := .ref D6) (by decide) a1 a2 a3
      dsimp only [tSeq, gName, sFld, tCB, tCons, tNil]
      refine sc_one (c := 4) (.inl rfl) p7.la p7.ho ?_
      intro D8 H8 n8 s8 e8
      refine ⟨D8, _, 0, rfl, e8, by decide, fun ns q _ _ hl nq => ?_⟩
      obtain ⟨dx9, fs9, a1, a2, a3⟩ := ((p7.same s8).same (Same.new (o := .lst (ns.map V.int)) nq)).ex
      refine ⟨_, rfl, r, hR, dx9, fs9, rfl, a1, T.cl, T.n4, by omega, ?_⟩
      have p9 := ((p7.same s8).same (Same.new nq)).put (f := "_names") (y := .ref q) (by decide) a1 a2 a3
      refine sc_one (c := 5) (.inr rfl) p9.la p9.ho ?_
      intro D8 H8 n8 s8 e8
      refine ⟨D8, _, 0, rfl, e8, by decide, fun ns q _ _ hl nq => ?_⟩
      obtain ⟨dx9, fs9, a1, a2, a3⟩ := ((p9.same s8).same (Same.new (o := .lst (ns.map V.int)) nq)).ex
      refine ⟨_, rfl, r, hR, dx9, fs9, rfl, a1, T.cl, T.n5, by omega, ?_⟩
      have p10 := ((p9.same s8).same (Same.new nq)).put (f := "_ports") (y := .ref q) (by decide) a1 a2 a3
      obtain ⟨dx', fs', x1, x2, x3⟩ := p10.ex
      exact k _ p10.sb ⟨dx', fs', x1, x3⟩
    · exact ⟨_, rfl, B, rfl, .inr ⟨xs, hB, k⟩⟩
end
end Oh
namespace Oh
open PySem PySem.Spec PyProof.Rows L2 PpSet
abbrev keyP (w : List Nat) : List L2.Key := w.map fun (n : Nat) => (.inl (n : Int) : L2.Key)
theorem pathV_key (w : List Nat) : (keyP w).map kV = pathV w := by
  show List.map _ (List.map _ _) = List.map _ _
  rw [List.map_map]
  rfl
theorem keyP_inj : ∀ {a b : List Nat}, keyP a = keyP b → a = b
  | [], [], _ => rfl
  | [], _ :: _, h => by cases h
  | _ :: _, [], h => by cases h
  | x :: a, y :: b, h => by
    obtain ⟨h1, h2⟩ := List.cons.inj (show (.inl (x : Int) : L2.Key) :: keyP a = .inl (y : Int) :: keyP b from h)
    have e : (x : Int) = y := Sum.inl.inj h1
    rw [keyP_inj h2, show x = y by omega]
/-- a table: each path's value -/
def TabAt (Z : Hp → V → LRow → Prop) (H : Hp) (kvs : List (List L2.Key × V)) (rows : List LRow) : Prop := Paired (fun kv r => kv.1 = keyP r.1 ∧ Z H kv.2 r) kvs rows
theorem TabAt.keep {Z : Hp → V → LRow → Prop} (zk : ∀ {H H' : Hp} {v : V} {r : LRow}, Same H H' → Z H v r → Z H' v r) {H H' : Hp} (s : Same H H') : ∀ {kvs : List (List L2.Key × V)} {rows : List LRow}, TabAt Z H kvs rows → TabAt Z H' kvs rows
  | _, _, .nil => .nil
  | _, _, .cons h t => .cons ⟨h.1, zk s h.2⟩ (TabAt.keep (Z := Z) (fun s z => zk s z) s t)
theorem TabAt.append {Z : Hp → V → LRow → Prop} {H : Hp} : ∀ {a b : List (List L2.Key × V)} {rs qs : List LRow}, TabAt Z H a rs → TabAt Z H b qs → TabAt Z H (a ++ b) (rs ++ qs)
  | _, _, _, _, .nil, h => h
  | _, _, _, _, .cons h t, z => .cons h (TabAt.append t z)
theorem TabAt.none {Z : Hp → V → LRow → Prop} {H : Hp} {w : List Nat} : ∀ {kvs : List (List L2.Key × V)} {rows : List LRow}, TabAt Z H kvs rows → (∀ r ∈ rows, r.1 ≠ w) → valV kvs (keyP w) = Option.none
  | _, _, .nil, _ => rfl
  | _, _, .cons (a := kv) (b := r) h t, ne => by
    have n1 : ¬ kv.1 = keyP w := fun e => ne r (List.mem_cons_self ..) (keyP_inj (h.1.symm.trans e))
    have z := TabAt.none t fun q hq => ne q (List.mem_cons_of_mem _ hq)
    unfold valV at z ⊢
    rw [List.find?_cons_of_neg (by simpa using n1)]
    exact z
theorem RowsAt.get {K : PySem.W.Frag} {H : Hp} : ∀ {vs : List V} {rs : List LRow}, RowsAt K H vs rs → ∀ {i : Nat} {r : LRow}, rs[i]? = some r → ∃ v, vs[i]? = some v ∧ RowAt K H v r
  | _, _, .cons h _, 0, _, e => ⟨_, rfl, by cases e; exact h⟩
  | _ :: vs, _ :: rs, .cons _ t, i + 1, _, e => RowsAt.get (vs := vs) (rs := rs) t (i := i) e
theorem tab_it {K : PySem.W.Frag} {Z : Hp → V → LRow → Prop} (zk : ∀ {H H' : Hp} {v : V} {r : LRow}, Same H H' → Z H v r → Z H' v r) {s0 s1 s3 s4 s5 : Option V} {H : Hp} {Q : VK} {L : Addr} {ys : List V} {rows : List LRow} {j : Int} (sel : V → V → V) (hj : ∀ a vS vF, atI [a, vS, vF] j = some (sel vS vF)) (hz : ∀ {H vS vF} {r : LRow}, Rp K H vS r.2.1 → PathOr H vF r.2.2 → Z H (sel vS vF) r)
    (hL : H L = some (.lst ys)) (ra : RowsAt K H ys rows) (nd : (rows.map (·.1)).Nodup) (few : rows.length ≤ 10000) (k : ∀ D H' kvs, H D = none → Same H H' → H' D = some (.dT kvs) → TabAt Z H' kvs rows → Q (.ref D) H') :
    tDcT (iList K (tVar 2)) (gName 3) tYes (tOp (rIxT K) (tVar 3) (tC (.int 0))) (tOp (rIxT K) (tVar 3) (tC (.int j))) [3] [s0, s1, some (.ref L), s3, s4, s5] H Q := by
  have hl := ra.len
  refine ⟨_, rfl, L, rfl, ⟨_, SqL.of hL⟩, fun D nD => dc_it (walk_list (xs := ys)) (fun i H' => Same H H' ∧ ∃ kvs, H' D = some (.dT kvs) ∧ TabAt Z H kvs (rows.take i)) ⟨Same.new nD, [], upd_same, .nil⟩ (fun i H' _ q => SqL.of (q.1 _ _ hL)) ?_ ?_⟩
  · rintro i y H1 H2 hi ⟨sm, kvs, hD, tab⟩ ⟨e2, ey⟩
    subst e2
    have li : i < rows.length := by rw [← hl]; exact hi
    obtain ⟨vi, ev, R, T, vS, vF, rfl, hR, hT, rS, rF⟩ := ra.get (List.getElem?_eq_getElem li)
    obtain rfl := Option.some.inj (ev.symm.trans ey)
    refine ⟨rfl, ?_⟩
    have fresh : valV kvs (keyP rows[i].1) = none := TabAt.none tab fun r hr e => by
      obtain ⟨m, hm, er⟩ := List.mem_take_iff_getElem.mp hr
      have lm : m < rows.length := by omega
      have := (List.pairwise_iff_getElem.mp nd) m i (by rw [List.length_map]; exact lm) (by rw [List.length_map]; exact li) (by omega)
      rw [List.getElem_map, List.getElem_map] at this
      exact this (by rw [er]; exact e)
    have lk : kvs.length = i := by
      have := Paired.length tab
      rw [List.length_take] at this
      omega
    refine ixT_at (i := 3) rfl (sm _ _ hR) rfl (ixT_at (i := 3) rfl (sm _ _ hR) (hj _ _ _) ⟨T, kvs, keyP rows[i].1, rfl, by rw [pathV_key]; exact sm _ _ hT, hD, by rw [lk]; exact Nat.lt_of_lt_of_le (show i < 10001 by omega) (by decide), fun b o eb => ?_, _, upd_same, ?_⟩)
    · rw [upd_ne (ne_of_none eb nD)]
      exact sm b o eb
    · rw [putK_new _ fresh, show rows.take (i + 1) = rows.take i ++ [rows[i]] by rw [List.take_add_one, List.getElem?_eq_getElem li]; rfl]
      exact tab.append (.cons ⟨rfl, hz rS rF⟩ .nil)
  · rintro H' ⟨sm, kvs, hD, tab⟩
    rw [show rows.take ys.length = rows by rw [List.take_of_length_le]; omega] at tab
    exact k D H' kvs nD sm hD (TabAt.keep (Z := Z) (fun s z => zk s z) sm tab)
end Oh
namespace Oh
open PySem PySem.Spec PyProof.Rows L2 PpSet
/-! No two rows have one path. -/
theorem sub_block {rec : DT → List Nat → OPath → OPath → List LRow} (h : ∀ d p a b, ∀ r ∈ rec d p a b, ∃ i t, r.1 = p ++ i :: t) {here : List Nat} {fol out : OPath} {rp : Bool} : ∀ (bs : List DT) (j : Nat), ∀ r ∈ layBlocks rec here fol out rp bs j, ∃ j' i t, j ≤ j' ∧ r.1 = here ++ j' :: i :: t
  | [], _, r, hr => by cases hr
  | b :: bs, j, r, hr => by
    unfold layBlocks at hr
    rcases List.mem_append.mp hr with hr | hr
    · have : ∃ a c, r ∈ rec b (here ++ [j]) a c := by
        cases rp
        · rw [if_neg (by decide)] at hr; exact ⟨_, _, hr⟩
        · rw [if_pos rfl] at hr; exact ⟨_, _, hr⟩
      obtain ⟨a, c, hm⟩ := this
      obtain ⟨i, t, e⟩ := h _ _ _ _ r hm
      exact ⟨j, i, t, Nat.le_refl _, by rw [e, List.append_assoc]; rfl⟩
    · obtain ⟨j', i, t, le, e⟩ := sub_block h bs (j + 1) r hr
      exact ⟨j', i, t, by omega, e⟩
theorem sub_items {rec : DT → List Nat → OPath → OPath → List LRow} (h : ∀ d p a b, ∀ r ∈ rec d p a b, ∃ i t, r.1 = p ++ i :: t) {m : Nat} {path : List Nat} {behind out : OPath} : ∀ (ds : List DT) (i : Nat), ∀ r ∈ layItems rec m path behind out ds i, ∃ i' t, i ≤ i' ∧ r.1 = path ++ i' :: t
  | [], _, r, hr => by cases hr
  | d :: ds, i, r, hr => by
    unfold layItems at hr
    rcases List.mem_cons.mp hr with rfl | hr
    · exact ⟨i, [], Nat.le_refl _, rfl⟩
    rcases List.mem_append.mp hr with hr | hr
    · obtain ⟨j', i', t, _, e⟩ := sub_block h _ _ r hr
      exact ⟨i, j' :: i' :: t, Nat.le_refl _, by rw [e, List.append_assoc]; rfl⟩
    · obtain ⟨i', t, le, e⟩ := sub_items h ds (i + 1) r hr
      exact ⟨i', t, by omega, e⟩
theorem lay_sub : ∀ (f : Nat) (d : DT) (p : List Nat) (a b : OPath), ∀ r ∈ layR f d p a b, ∃ i t, r.1 = p ++ i :: t
  | 0, _, _, _, _, r, hr => by cases hr
  | f + 1, d, p, a, b, r, hr => by
    obtain ⟨i, t, _, e⟩ := sub_items (lay_sub f) _ _ r hr
    exact ⟨i, t, e⟩
abbrev NoTwo (l : List LRow) : Prop := l.Pairwise fun a b => a.1 ≠ b.1
theorem two_block {rec : DT → List Nat → OPath → OPath → List LRow} (h : ∀ d p a b, ∀ r ∈ rec d p a b, ∃ i t, r.1 = p ++ i :: t) (g : ∀ d p a b, NoTwo (rec d p a b)) {here : List Nat} {fol out : OPath} {rp : Bool} : ∀ (bs : List DT) (j : Nat), NoTwo (layBlocks rec here fol out rp bs j)
  | [], _ => .nil
  | b :: bs, j => by
    unfold layBlocks
    have : ∃ a c, (if rp = true then rec b (here ++ [j]) (some (here ++ [j] ++ [0])) fol else rec b (here ++ [j]) fol out) = rec b (here ++ [j]) a c := by
      cases rp
      · exact ⟨_, _, if_neg (by decide)⟩
      · exact ⟨_, _, if_pos rfl⟩
    obtain ⟨a, c, e⟩ := this
    rw [e]
    refine List.pairwise_append.mpr ⟨g _ _ _ _, two_block h g bs (j + 1), fun r hr q hq z => ?_⟩
    obtain ⟨i, t, e1⟩ := h _ _ _ _ r hr
    obtain ⟨j', i', t', le, e2⟩ := sub_block h bs (j + 1) q hq
    rw [e1, e2, List.append_assoc] at z
    have z := List.append_cancel_left z
    have := (List.cons.inj (show j :: i :: t = j' :: i' :: t' from z)).1
    omega
theorem two_items {rec : DT → List Nat → OPath → OPath → List LRow} (h : ∀ d p a b, ∀ r ∈ rec d p a b, ∃ i t, r.1 = p ++ i :: t) (g : ∀ d p a b, NoTwo (rec d p a b)) {m : Nat} {path : List Nat} {behind out : OPath} : ∀ (ds : List DT) (i : Nat), NoTwo (layItems rec m path behind out ds i)
  | [], _ => .nil
  | d :: ds, i => by
    unfold layItems
    refine List.pairwise_cons.mpr ⟨fun q hq z => ?_, List.pairwise_append.mpr ⟨two_block h g _ _, two_items h g ds (i + 1), fun r hr q hq z => ?_⟩⟩
    · rcases List.mem_append.mp hq with hq | hq
      · obtain ⟨j', i', t, _, e⟩ := sub_block h _ _ q hq
        have z : path ++ [i] = q.1 := z
        rw [e] at z
        have := congrArg List.length z
        simp at this
      · obtain ⟨i', t, le, e⟩ := sub_items h ds (i + 1) q hq
        have z : path ++ [i] = q.1 := z
        rw [e] at z
        have := (List.cons.inj (List.append_cancel_left z)).1
        omega
    · obtain ⟨j', i', t, _, e⟩ := sub_block h _ _ r hr
      obtain ⟨i2, t2, le, e2⟩ := sub_items h ds (i + 1) q hq
      rw [e, e2, List.append_assoc] at z
      have z := List.append_cancel_left z
      have := (List.cons.inj (show i :: (j' :: i' :: t) = i2 :: t2 from z)).1
      omega
theorem lay_two : ∀ (f : Nat) (d : DT) (p : List Nat) (a b : OPath), NoTwo (layR f d p a b)
  | 0, _, _, _, _ => .nil
  | f + 1, d, p, a, b => two_items (lay_sub f) (lay_two f) _ _
theorem lay_nodup (f : Nat) (d : DT) (p : List Nat) (a b : OPath) : ((layR f d p a b).map (·.1)).Nodup := List.pairwise_map.mpr (lay_two f d p a b)
end Oh
namespace Oh
open PySem PySem.Spec PyProof.Rows L2 PpSet
/-! The texts of all rows, as one set. -/
abbrev TSt : Type := (Str → Bool) × Nat
def addS (s : TSt) (k : Str) : TSt := (fun j => s.1 j || decide (j = k), if s.1 k = true then s.2 else s.2 + 1)
def allS (l : List Str) : TSt := l.foldl addS (fun _ => false, 0)
theorem foldS_mono : ∀ (l : List Str) (s : TSt), s.2 ≤ (l.foldl addS s).2
  | [], s => Nat.le_refl _
  | k :: l, s => by
    refine Nat.le_trans ?_ (foldS_mono l (addS s k))
    show s.2 ≤ if s.1 k = true then s.2 else s.2 + 1
    by_cases c : s.1 k = true
    · rw [if_pos c]
      exact Nat.le_refl _
    · rw [if_neg c]
      omega
theorem allS_mono (a b : List Str) : (allS a).2 ≤ (allS (a ++ b)).2 := by
  unfold allS
  rw [List.foldl_append]
  exact foldS_mono b _
theorem allS_snoc (a : List Str) (k : Str) : allS (a ++ [k]) = addS (allS a) k := by
  unfold allS
  rw [List.foldl_append]
  rfl
theorem foldS_mem : ∀ (l : List Str) (s : TSt) (j : Str), (l.foldl addS s).1 j = (s.1 j || decide (j ∈ l))
  | [], s, j => by simp
  | k :: l, s, j => by
    show (l.foldl addS (addS s k)).1 j = _
    rw [foldS_mem l]
    show ((s.1 j || decide (j = k)) || decide (j ∈ l)) = _
    rw [Bool.or_assoc]
    congr 1
    by_cases h : j = k
    · subst h; simp
    · simp [h]
theorem allS_mem (l : List Str) (j : Str) : (allS l).1 j = decide (j ∈ l) := by
  show (l.foldl addS _).1 j = _
  rw [foldS_mem]
  rfl
abbrev allT (g : DT → List Str) (rows : List LRow) : List Str := (rows.map fun r => g r.2.1).flatten
theorem allT_succ {g : DT → List Str} {rows : List LRow} {i : Nat} (h : i < rows.length) : allT g (rows.take (i + 1)) = allT g (rows.take i) ++ g rows[i].2.1 := by
  rw [List.take_add_one, List.getElem?_eq_getElem h]
  show (List.map _ (rows.take i ++ [rows[i]])).flatten = _
  rw [List.map_append, List.flatten_append]
  show _ ++ (g rows[i].2.1 ++ []) = _
  rw [List.append_nil]
theorem allT_le {g : DT → List Str} {rows : List LRow} {i : Nat} (h : i ≤ rows.length) : (allS (allT g (rows.take i))).2 ≤ (allS (allT g rows)).2 := by
  have e : allT g rows = allT g (rows.take i) ++ allT g (rows.drop i) := by
    show (rows.map _).flatten = _
    conv => lhs; rw [← List.take_append_drop i rows]
    rw [List.map_append, List.flatten_append]
  rw [e]
  exact allS_mono _ _
abbrev SetAll (w : World) (D : Addr) (l : List Str) : HO := SetTO w D (allS l).1 (allS l).2
theorem tx_it {K : PySem.W.Frag} {w : World} {g : DT → List Str} {s0 s1 s3 s4 s5 : Option V} {c : Nat} (hc : c = 4 ∨ c = 5) {H : Hp} {Q : VK} {L : Addr} {ys : List V} {rows : List LRow}
    (hL : H L = some (.lst ys)) (ra : RowsAt K H ys rows) (st : ∀ r ∈ rows, stmtB r.2.1 = true) (few : (allS (allT g rows)).2 < 64) (k : ∀ D H', H D = none → Same H H' → H' D = some (SetAll w D (allT g rows)) → Q (.ref D) H') :
    tSc2 (fun D => SetTO w D (fun _ => false) 0) (AddT w) (iList K (tVar 2)) (gName 3) tYes (iList K (tCall (spStrs K g) [] E0 (tCons (tOp (rIxT K) (tVar 3) (tC (.int 1))) tNil))) (gName c) tYes (tVar c) [3, c] [c] [s0, s1, some (.ref L), s3, s4, s5] H Q := by
  have hl := ra.len
  refine ⟨_, rfl, L, rfl, ⟨_, SqL.of hL⟩, fun D nD => ⟨fun i m H' => m = ys.length - i ∧ i ≤ ys.length ∧ Same H H' ∧ H' D = some (SetAll w D (allT g (rows.take i))), ⟨_, rfl, Nat.zero_le _, Same.new nD, upd_same⟩, ?_⟩⟩
  rintro i m H1 ⟨rfl, hi, sm, hD⟩
  by_cases hlt : i < ys.length
  rotate_left
  · have e : i = ys.length := by omega
    subst e
    rw [show rows.take ys.length = rows by rw [List.take_of_length_le]; omega] at hD
    exact .inl ⟨⟨_, SqL.of (sm _ _ hL), Nat.le_refl _⟩, k D H1 nD sm hD⟩
  · have li : i < rows.length := by rw [← hl]; exact hlt
    obtain ⟨vi, ev, R, T, vS, vF, rfl, hR, hT, rS, rF⟩ := ra.get (List.getElem?_eq_getElem li)
    refine .inr ⟨⟨_, V.ref R, SqL.of (sm _ _ hL), ev⟩, fun H' => Same H H' ∧ H' D = some (SetAll w D (allT g (rows.take (i + 1)))), fun H' q => ⟨ys.length - (i + 1), by omega, rfl, hlt, q⟩, fun x H' y => ?_⟩
    obtain ⟨e2, ex⟩ := y
    subst e2
    have ex : ys[i]? = some x := ex _ (SqL.of (sm _ _ hL))
    obtain rfl := Option.some.inj (ev.symm.trans ex)
    have hst := st _ (List.getElem_mem li)
    have mono : (allS (allT g (rows.take (i + 1)))).2 < 64 := Nat.lt_of_le_of_lt (allT_le li) few
    rw [allT_succ li] at mono
    rw [allT_succ li]
    generalize allT g (rows.take i) = before at hD mono ⊢
    rcases hc with rfl | rfl
    all_goals
      refine ⟨rfl, ?_⟩
      refine ixT_at (i := 3) rfl (sm _ _ hR) rfl ⟨vS, rows[i].2.1, rfl, rS.keep sm, hst, fun M H4 s4 nM hM => ⟨M, rfl, ⟨_, SqL.of hM⟩, ?_⟩⟩
      generalize g rows[i].2.1 = tx at hM mono ⊢
      refine ⟨fun j kk Hj => kk = tx.length - j ∧ j ≤ tx.length ∧ (Same H Hj ∧ Hj M = some (.lst (tx.map V.str))) ∧ Hj D = some (SetAll w D (before ++ tx.take j)), ⟨_, rfl, Nat.zero_le _, ⟨sm.trans s4, hM⟩, by rw [List.take_zero, List.append_nil]; exact s4 _ _ hD⟩, ?_⟩
      rintro j kk Hj ⟨rfl, hj, ⟨sj, hMj⟩, hDj⟩
      by_cases hjl : j < tx.length
      rotate_left
      · have e : j = tx.length := by omega
        subst e
        rw [List.take_length] at hDj
        exact .inl ⟨⟨_, SqL.of hMj, by rw [List.length_map]; exact Nat.le_refl _⟩, sj, hDj⟩
      · have evj : (tx.map V.str)[j]? = some (V.str tx[j]) := by rw [List.getElem?_map, List.getElem?_eq_getElem hjl]; rfl
        refine .inr ⟨⟨_, V.str tx[j], SqL.of hMj, evj⟩, fun H' => (Same H H' ∧ H' M = some (.lst (tx.map V.str))) ∧ H' D = some (SetAll w D (before ++ tx.take (j + 1))), fun H' q => ⟨tx.length - (j + 1), by omega, rfl, hjl, q⟩, fun x H' y => ?_⟩
        obtain ⟨e3, ex3⟩ := y
        subst e3
        have ex3 : (tx.map V.str)[j]? = some x := ex3 _ (SqL.of hMj)
        obtain rfl := Option.some.inj (evj.symm.trans ex3)
        have room : (allS (before ++ tx.take j)).2 < 64 := by
          refine Nat.lt_of_le_of_lt ?_ mono
          have e : before ++ tx = before ++ tx.take j ++ tx.drop j := by rw [List.append_assoc, List.take_append_drop]
          rw [e]
          exact allS_mono _ _
        have MD : M ≠ D := fun z => by
          subst z
          cases hD.symm.trans nM
        refine ⟨rfl, _, rfl, _, ⟨tx[j], _, _, rfl, hDj, Nat.lt_trans (show _ < 65 by omega) (by decide), rfl⟩, ⟨fun b o eb => ?_, ?_⟩, ?_⟩
        · rw [upd_ne (ne_of_none eb nD)]
          exact sj b o eb
        · rw [upd_ne MD]
          exact hMj
        · rw [upd_same, show tx.take (j + 1) = tx.take j ++ [tx[j]] by rw [List.take_add_one, List.getElem?_eq_getElem hjl]; rfl, ← List.append_assoc]
          show _ = some (SetTO w D (allS (before ++ tx.take j ++ [tx[j]])).1 (allS (before ++ tx.take j ++ [tx[j]])).2)
          rw [allS_snoc]
          rfl
end Oh
namespace Oh
open PySem PySem.Spec PyProof.Rows L2 PpSet
theorem lay_stmt_b {rec : DT → List Nat → OPath → OPath → List LRow} {c : DT → Bool} (h : ∀ d p a b, c d = true → ∀ r ∈ rec d p a b, stmtB r.2.1 = true) {here : List Nat} {fol out : OPath} {rp : Bool} : ∀ (bs : List DT) (j : Nat), (∀ b ∈ bs, c b = true) → ∀ r ∈ layBlocks rec here fol out rp bs j, stmtB r.2.1 = true
  | [], _, _, r, hr => by cases hr
  | b :: bs, j, hb, r, hr => by
    unfold layBlocks at hr
    rcases List.mem_append.mp hr with hr | hr
    · cases rp
      · rw [if_neg (by decide)] at hr; exact h _ _ _ _ (hb b List.mem_cons_self) r hr
      · rw [if_pos rfl] at hr; exact h _ _ _ _ (hb b List.mem_cons_self) r hr
    · exact lay_stmt_b h bs (j + 1) (fun x hx => hb x (List.mem_cons_of_mem _ hx)) r hr
theorem lay_stmt_i {rec : DT → List Nat → OPath → OPath → List LRow} {c : DT → Bool} (h : ∀ d p a b, c d = true → ∀ r ∈ rec d p a b, stmtB r.2.1 = true) {m : Nat} {path : List Nat} {behind out : OPath} : ∀ (ds : List DT) (i : Nat), (∀ d ∈ ds, stmtB d = true ∧ ∀ b ∈ blocksB d, c b = true) → ∀ r ∈ layItems rec m path behind out ds i, stmtB r.2.1 = true
  | [], _, _, r, hr => by cases hr
  | d :: ds, i, hd, r, hr => by
    unfold layItems at hr
    rcases List.mem_cons.mp hr with rfl | hr
    · exact (hd d List.mem_cons_self).1
    rcases List.mem_append.mp hr with hr | hr
    · exact lay_stmt_b h _ _ (hd d List.mem_cons_self).2 r hr
    · exact lay_stmt_i h ds (i + 1) (fun x hx => hd x (List.mem_cons_of_mem _ hx)) r hr
theorem lay_stmt : ∀ (f : Nat) (d : DT) (p : List Nat) (a b : OPath), goodR f d = true → ∀ r ∈ layR f d p a b, stmtB r.2.1 = true
  | 0, _, _, _, _, _, r, hr => by cases hr
  | f + 1, d, p, a, b, hg, r, hr => by
    obtain ⟨l, rfl, _, good⟩ := good_inv (f := f) hg
    exact lay_stmt_i (lay_stmt f) l 0 good r hr
/-! an object's attributes are set -/
theorem upd_ins_ne {H : Hp} {C r p dx : Addr} {fs : List (Str × V)} {o z : HO} (hr : H r = some (.ins C dx fs)) (hp : H p = some o) (ne : ∀ dx fs, o ≠ .ins C dx fs) : upd H r z p = some o := by
  have h : p ≠ r := fun e => by
    subst e
    exact ne dx fs (Option.some.inj (hp.symm.trans hr))
  rw [upd_ne h]
  exact hp
mutual
theorem Rp.updI {K : PySem.W.Frag} {H : Hp} {C r dx dx' : Addr} {fs fs' : List (Str × V)} (hr : H r = some (.ins C dx fs)) : ∀ {v : V} {d : DT}, Rp K H v d → Rp K (upd H r (.ins C dx' fs')) v d
  | _, _, .non => .non
  | _, _, .bl b => .bl b
  | _, _, .int i => .int i
  | _, _, .str z => .str z
  | _, _, .tup e t => .tup (upd_ins_ne hr e (fun _ _ => nofun)) (RpAll.updI hr t)
  | _, _, .lst e => .lst (upd_ins_ne hr e (fun _ _ => nofun))
  | _, _, .dct e => .dct (upd_ins_ne hr e (fun _ _ => nofun))
  | _, _, .ins (p := p) e c => by
    by_cases h : p = r
    · subst h
      have z := Option.some.inj (e.symm.trans hr)
      injection z with h1 h2 h3
      subst h1
      exact .ins upd_same c
    · exact .ins (by rw [upd_ne h]; exact e) c
theorem RpAll.updI {K : PySem.W.Frag} {H : Hp} {C r dx dx' : Addr} {fs fs' : List (Str × V)} (hr : H r = some (.ins C dx fs)) : ∀ {vs : List V} {ds : List DT}, RpAll K H vs ds → RpAll K (upd H r (.ins C dx' fs')) vs ds
  | _, _, .nil => .nil
  | _, _, .cons h t => .cons (Rp.updI hr h) (RpAll.updI hr t)
end
theorem PathOr.updI {H : Hp} {C r dx dx' : Addr} {fs fs' : List (Str × V)} (hr : H r = some (.ins C dx fs)) {v : V} {o : OPath} (h : PathOr H v o) : PathOr (upd H r (.ins C dx' fs')) v o := by
  cases o with
  | none => exact h
  | some w =>
    obtain ⟨p, e, hp⟩ := h
    exact ⟨p, e, upd_ins_ne hr hp (fun _ _ => nofun)⟩
theorem RowAt.updI {K : PySem.W.Frag} {H : Hp} {C r dx dx' : Addr} {fs fs' : List (Str × V)} (hr : H r = some (.ins C dx fs)) {v : V} {q : LRow} (h : RowAt K H v q) : RowAt K (upd H r (.ins C dx' fs')) v q := by
  obtain ⟨R, T, vS, vF, e, h1, h2, h3, h4⟩ := h
  exact ⟨R, T, vS, vF, e, upd_ins_ne hr h1 (fun _ _ => nofun), upd_ins_ne hr h2 (fun _ _ => nofun), h3.updI hr, h4.updI hr⟩
theorem RowsAt.updI {K : PySem.W.Frag} {H : Hp} {C r dx dx' : Addr} {fs fs' : List (Str × V)} (hr : H r = some (.ins C dx fs)) : ∀ {vs : List V} {rs : List LRow}, RowsAt K H vs rs → RowsAt K (upd H r (.ins C dx' fs')) vs rs
  | _, _, .nil => .nil
  | _, _, .cons h t => .cons (RowAt.updI hr h) (RowsAt.updI hr t)
theorem TabAt.to {Z : Hp → V → LRow → Prop} {H H' : Hp} (zk : ∀ v r, Z H v r → Z H' v r) : ∀ {kvs : List (List L2.Key × V)} {rows : List LRow}, TabAt Z H kvs rows → TabAt Z H' kvs rows
  | _, _, .nil => .nil
  | _, _, .cons h t => .cons ⟨h.1, zk _ _ h.2⟩ (TabAt.to zk t)
abbrev ZS (K : PySem.W.Frag) : Hp → V → LRow → Prop := fun H v r => Rp K H v r.2.1
abbrev ZF : Hp → V → LRow → Prop := fun H v r => PathOr H v r.2.2
/-- an ascending list of the texts of a list -/
def AscAt (H : Hp) (N : Addr) (l : List Str) : Prop := ∃ ys : List Str, H N = some (.lst (ys.map V.str)) ∧ sortedS ys = true ∧ ys.Nodup ∧ ∀ k, k ∈ ys ↔ k ∈ l
abbrev rowsD (d : DT) : List LRow := layR 12 d [] none none
abbrev fsA (v : V) : List (Str × V) := [("block", v)]
abbrev fsB (v : V) (D1 : Addr) : List (Str × V) := [("block", v), ("_statements", .ref D1)]
abbrev fsC (v : V) (D1 D2 : Addr) : List (Str × V) := [("block", v), ("_statements", .ref D1), ("_followers", .ref D2)]
abbrev fsD (v : V) (D1 D2 N1 : Addr) : List (Str × V) := [("block", v), ("_statements", .ref D1), ("_followers", .ref D2), ("_names", .ref N1)]
abbrev fsE (v : V) (D1 D2 N1 N2 : Addr) : List (Str × V) := [("block", v), ("_statements", .ref D1), ("_followers", .ref D2), ("_names", .ref N1), ("_ports", .ref N2)]
/-- a routine over the block d -/
structure RoutD (K : PySem.W.Frag) (H : Hp) (hR r : Addr) (v : V) (d : DT) : Prop where
  ex : ∃ (dx D1 D2 N1 N2 : Addr) (k1 k2 : List (List L2.Key × V)), H r = some (.ins hR dx (fsE v D1 D2 N1 N2)) ∧
    H D1 = some (.dT k1) ∧ TabAt (ZS K) H k1 (rowsD d) ∧ H D2 = some (.dT k2) ∧ TabAt ZF H k2 (rowsD d) ∧ AscAt H N1 (allT namesB (rowsD d)) ∧ AscAt H N2 (allT portsB (rowsD d))
  rp : Rp K H v d
/-- the lists of a new routine were not there before -/
def NewR (H H' : Hp) (hR r : Addr) : Prop := ∃ (dx : Addr) (v : V) (D1 D2 N1 N2 : Addr), H' r = some (.ins hR dx (fsE v D1 D2 N1 N2)) ∧ ∀ b o, H b = some o → b ≠ N1 ∧ b ≠ N2
def spInitD (K : PySem.W.Frag) (hR hBR : Addr) : Sp := fun vs H Q E => ∃ r v d dx, vs = [.ref r, v] ∧ Rp K H v d ∧ H r = some (.ins hR dx []) ∧
  (dueB d = none → (allS (allT namesB (rowsD d))).2 < 64 ∧ (allS (allT portsB (rowsD d))).2 < 64 ∧ ∀ H', (∀ b o, H b = some o → b ≠ r → H' b = some o) → RoutD K H' hR r v d → NewR H H' hR r → Q .non H') ∧
  ∀ w, dueB d = some w → ∀ (e : Addr) (u : V) H', Same H H' → H' e = some (.xd [("what", u)]) → PathOr H' u w → E (.ref hBR) (some e) H'
/-- the new routine while its attributes are set -/
structure PkD (K : PySem.W.Frag) (H0 : Hp) (hR r L : Addr) (v : V) (d : DT) (ys : List V) (dx : Addr) (fs : List (Str × V)) (Hn : Hp) : Prop where
  ex : Hn r = some (.ins hR dx fs)
  la : Hn L = some (.lst ys)
  ra : RowsAt K Hn ys (rowsD d)
  rp : Rp K Hn v d
  sb : ∀ b o, H0 b = some o → b ≠ r → Hn b = some o
theorem PkD.same {K : PySem.W.Frag} {H0 : Hp} {hR r L dx : Addr} {v : V} {d : DT} {ys : List V} {fs : List (Str × V)} {Hn Hm : Hp} (p : PkD K H0 hR r L v d ys dx fs Hn) (s : Same Hn Hm) : PkD K H0 hR r L v d ys dx fs Hm :=
  ⟨s _ _ p.ex, s _ _ p.la, p.ra.keep s, p.rp.keep s, fun b o e nb => s _ _ (p.sb b o e nb)⟩
theorem PkD.put {K : PySem.W.Frag} {H0 : Hp} {hR r L dx : Addr} {v : V} {d : DT} {ys : List V} {fs fs' : List (Str × V)} {Hn : Hp} (p : PkD K H0 hR r L v d ys dx fs Hn) : PkD K H0 hR r L v d ys dx fs' (upd Hn r (.ins hR dx fs')) :=
  ⟨upd_same, upd_ins_ne p.ex p.la (fun _ _ => nofun), p.ra.updI p.ex, p.rp.updI p.ex, fun b o e nb => by rw [upd_ne nb]; exact p.sb b o e nb⟩
section
variable {P : Program} {w : World} {K : PySem.W.Frag} {mg : Str → Option Value} {base : Heap} {hR hBR : Addr}
theorem ok_rinitD {f fC fL fN fP : Addr} {fd fdC fdL fdN fdP : FuncData} (F : Fun K "__init__" "Routine.__init__" sRInit f fd) (T : RCls K hR) (mso : mg "sorted" = none)
    (GC : FnOk P w K mg base (L2.CX P w) 36 fC fdC ["block"] (spCheckD K hBR)) (kC : PySem.W.keepIn K (.ref fC) = true) (bC : Binds K fdC ["block"] []) (mC : mg "_check" = some (.ref fC))
    (GL : FnOk P w K mg base CX0 13 fL fdL ["block", "path", "behind", "outside"] (spLay K 11)) (kL : PySem.W.keepIn K (.ref fL) = true) (bL : Binds K fdL ["block", "path", "behind", "outside"] []) (mL : mg "laid_out" = some (.ref fL))
    (GN : FnOk P w K mg base CX0 8 fN fdN ["statement"] (spStrs K namesB)) (kN : PySem.W.keepIn K (.ref fN) = true) (bN : Binds K fdN ["statement"] []) (mN : mg "names_of" = some (.ref fN))
    (GP : FnOk P w K mg base CX0 1 fP fdP ["statement"] (spStrs K portsB)) (kP : PySem.W.keepIn K (.ref fP) = true) (bP : Binds K fdP ["statement"] []) (mP : mg "ports_of" = some (.ref fP)) :
    FnOk P w K mg base (L2.CX P w) 37 f fd ["self", "block"] (spInitD K hR hBR) := by
  refine F.okX scRInit (fun vs H Q E h => ?_) (fun cdv A outer s H vs Q E hr h => ?_)
  · obtain ⟨r, v, d, dx, rfl, _⟩ := h
    rfl
  · obtain ⟨r, v, d, dx, rfl, rv, hr0, kn, kx⟩ := h
    have hr1 : Room 1 _ := hr.mono (by decide)
    have hr8 : Room 8 _ := hr.mono (by decide)
    have hr13 : Room 13 _ := hr.mono (by decide)
    have hu := hu_of hr1
    refine ⟨_, pss_cons (ps_expr (pe_call GC hr (by rfl) mC kC bC .nil (passes_call (takes_of rfl rfl rfl rfl) (fun _ _ _ _ h => h)) (pa_cons (pv 1) pa_nil)))
      (pss_cons (ps_fld (pv 0) (pv 1) rfl)
      (pss_cons (ps_set (i := 2) scRInit.nd rfl (Or.inl rfl) (pe_call GL hr13 (by rfl) mL kL bL .nil pass0 (pa_cons (pv 1) (pa_cons (pe_tup pa_nil) (pa_cons pe_non (pa_cons pe_non pa_nil))))))
      (pss_cons (ps_fld (pv 0) (pe_dcT (own := [("row", 3)]) (g := gName 3) (tt := tYes) (tk := tOp (rIxT K) (tVar 3) (tC (.int 0))) (tv := tOp (rIxT K) (tVar 3) (tC (.int 1))) (Nat.lt_of_succ_lt hu) rfl scRInit.nd (pi_list (pv 2)) (blkOk_by (N := nIn) (sc := defScope sRInit) (by decide +kernel)) (fun _ _ _ _ _ => pg_name (i := 3) scRInit.nd rfl (Or.inl rfl)) (fun _ _ _ _ _ => pts_nil)
          (fun _ _ _ _ _ => pe_ix ix_tup (pv 3) pe_int (fun _ _ => rfl)) (fun _ _ _ _ _ => pe_ix ix_tup (pv 3) pe_int (fun _ _ => rfl))) rfl)
      (pss_cons (ps_fld (pv 0) (pe_dcT (own := [("row", 3)]) (g := gName 3) (tt := tYes) (tk := tOp (rIxT K) (tVar 3) (tC (.int 0))) (tv := tOp (rIxT K) (tVar 3) (tC (.int 2))) (Nat.lt_of_succ_lt hu) rfl scRInit.nd (pi_list (pv 2)) (blkOk_by (N := nIn) (sc := defScope sRInit) (by decide +kernel)) (fun _ _ _ _ _ => pg_name (i := 3) scRInit.nd rfl (Or.inl rfl)) (fun _ _ _ _ _ => pts_nil)
          (fun _ _ _ _ _ => pe_ix ix_tup (pv 3) pe_int (fun _ _ => rfl)) (fun _ _ _ _ _ => pe_ix ix_tup (pv 3) pe_int (fun _ _ => rfl))) rfl)
      (pss_cons (ps_fld (pv 0) (pe_callB (cr_sortedT rfl) (by rfl) mso boot_sorted (pa_cons
          (pe_sc2 (own := [("row", 3), ("name", 4)]) (vs1 := [4]) (g := gName 3) (tt := tYes) (g1 := gName 4) (tt1 := tYes) (wi1 := iList K (tCall (spStrs K namesB) [] E0 (tCons (tOp (rIxT K) (tVar 3) (tC (.int 1))) tNil))) (te := tVar 4) (kindT P w) rfl scRInit.nd (pi_list (pv 2))
            (blkOk_by (N := nIn) (sc := defScope sRInit) (by decide +kernel)) (by decide +kernel) (fun _ _ _ _ _ => pg_name (i := 3) scRInit.nd rfl (Or.inl rfl)) (fun _ _ _ _ _ => pts_nil)
            (fun _ _ _ _ _ => pi_list (by exact (pe_call GN hr8 (by rfl) mN kN bN .nil pass0 (pa_cons (pe_ix ix_tup (pv 3) pe_int (fun _ _ => rfl)) pa_nil)))) (fun _ _ _ _ _ => pg_name (i := 4) scRInit.nd rfl (Or.inl rfl)) (fun _ _ _ _ _ => pts_nil) (fun _ _ _ _ _ => pv 4)) pa_nil)) rfl)
      (pss_one (ps_fld (pv 0) (pe_callB (cr_sortedT rfl) (by rfl) mso boot_sorted (pa_cons
          (pe_sc2 (own := [("row", 3), ("port", 5)]) (vs1 := [5]) (g := gName 3) (tt := tYes) (g1 := gName 5) (tt1 := tYes) (wi1 := iList K (tCall (spStrs K portsB) [] E0 (tCons (tOp (rIxT K) (tVar 3) (tC (.int 1))) tNil))) (te := tVar 5) (kindT P w) rfl scRInit.nd (pi_list (pv 2))
            (blkOk_by (N := nIn) (sc := defScope sRInit) (by decide +kernel)) (by decide +kernel) (fun _ _ _ _ _ => pg_name (i := 3) scRInit.nd rfl (Or.inl rfl)) (fun _ _ _ _ _ => pts_nil)
            (fun _ _ _ _ _ => pi_list (by exact (pe_call GP hr1 (by rfl) mP kP bP .nil pass0 (pa_cons (pe_ix ix_tup (pv 3) pe_int (fun _ _ => rfl)) pa_nil)))) (fun _ _ _ _ _ => pg_name (i := 5) scRInit.nd rfl (Or.inl rfl)) (fun _ _ _ _ _ => pts_nil) (fun _ _ _ _ _ => pv 5)) pa_nil)) rfl))))))), ?_⟩
    refine ⟨_, rfl, v, d, rfl, rv, fun due H1 s1 => ?_, kx⟩
    obtain ⟨few1, few2, k⟩ := kn due
    obtain ⟨hb, hg, hc⟩ := due_none due
    have h1 := s1 _ _ hr0
    have st : ∀ q ∈ rowsD d, stmtB q.2.1 = true := lay_stmt 12 d [] none none hg
    have nd : ((rowsD d).map (·.1)).Nodup := lay_nodup 12 d [] none none
    have fw : (rowsD d).length ≤ 10000 := by
      rw [lay_len]
      exact Nat.le_trans hc (by decide)
    refine ⟨_, rfl, _, rfl, r, hR, dx, [], rfl, h1, T.cl, T.n1, by decide, ?_⟩
    refine ⟨_, rfl, by decide, fun p np => ⟨v, d, p, .non, .non, [], none, none, rfl, ((rv.keep s1).updI h1).keep (Same.new np), hg, upd_same, by decide, Nat.le_trans hc (by decide), rfl, rfl, fun L H3 ys s3 nL hL ra => ?_⟩⟩
    have pk : PkD K H hR r L v d ys dx [("block", v)] H3 := ⟨s3 _ _ ((Same.new np) _ _ upd_same), hL, ra, ((((rv.keep s1).updI h1).keep (Same.new np)).keep s3), fun b o e nb => s3 _ _ ((Same.new np) _ _ (by rw [upd_ne nb]; exact s1 _ _ e))⟩
    dsimp only [tSeq, gName, sFld]
    refine tab_it (Z := ZS K) (fun s z => Rp.keep s z) (fun a _ => a) (fun _ _ _ => rfl) (fun a _ => a) pk.la pk.ra nd fw ?_
    intro D1 H4 k1 n4 s4 hD1 t1
    have p4 := pk.same s4
    refine ⟨_, rfl, r, hR, dx, _, rfl, p4.ex, T.cl, T.n2, (by show 1 < 1000; decide), ?_⟩
    have e5 : putF "_statements" (V.ref D1) (fsA v) = (fsB v D1) := rfl
    rw [e5]
    have p5 := p4.put (fs' := (fsB v D1))
    have d1 := upd_ins_ne (z := .ins hR dx (fsB v D1)) p4.ex hD1 (fun _ _ => nofun)
    have t1 := t1.to (Z := ZS K) fun _ _ h => Rp.updI (dx' := dx) (fs' := (fsB v D1)) p4.ex h
    obtain ⟨H5, hH5⟩ : ∃ H5, H5 = upd H4 r (.ins hR dx (fsB v D1)) := ⟨_, rfl⟩
    rw [← hH5] at p5 d1 t1 ⊢
    refine tab_it (Z := ZF) (fun s z => PathOr.keep s z) (fun _ b => b) (fun _ _ _ => rfl) (fun _ b => b) p5.la p5.ra nd fw ?_
    intro D2 H6 k2 n6 s6 hD2 t2
    have p6 := p5.same s6
    have d1 := s6 _ _ d1
    have t1 := t1.to (Z := ZS K) fun _ _ h => Rp.keep s6 h
    refine ⟨_, rfl, r, hR, dx, _, rfl, p6.ex, T.cl, T.n3, (by show 2 < 1000; decide), ?_⟩
    have e7 : putF "_followers" (V.ref D2) (fsB v D1) = (fsC v D1 D2) := rfl
    rw [e7]
    have p7 := p6.put (fs' := (fsC v D1 D2))
    have d1 := upd_ins_ne (z := .ins hR dx (fsC v D1 D2)) p6.ex d1 (fun _ _ => nofun)
    have d2 := upd_ins_ne (z := .ins hR dx (fsC v D1 D2)) p6.ex hD2 (fun _ _ => nofun)
    have t1 := t1.to (Z := ZS K) fun _ _ h => Rp.updI (dx' := dx) (fs' := (fsC v D1 D2)) p6.ex h
    have t2 := t2.to (Z := ZF) fun _ _ h => PathOr.updI (dx' := dx) (fs' := (fsC v D1 D2)) p6.ex h
    obtain ⟨H7, hH7⟩ : ∃ H7, H7 = upd H6 r (.ins hR dx (fsC v D1 D2)) := ⟨_, rfl⟩
    rw [← hH7] at p7 d1 d2 t1 t2 ⊢
    dsimp only [tSeq, gName, sFld, tCB, tCons, tNil]
    refine tx_it (c := 4) (g := namesB) (.inl rfl) p7.la p7.ra st few1 ?_
    intro S1 H8 n8 s8 e8
    refine ⟨S1, _, _, rfl, e8, few1, fun ns N1 a1 a2 a3 _ nN1 => ?_⟩
    have s9 : Same H7 (upd H8 N1 (.lst (ns.map V.str))) := s8.trans (Same.new nN1)
    have x1 : upd H8 N1 (.lst (ns.map V.str)) N1 = some (.lst (ns.map V.str)) := upd_same
    obtain ⟨H9, hH9⟩ : ∃ H9, H9 = upd H8 N1 (.lst (ns.map V.str)) := ⟨_, rfl⟩
    rw [← hH9] at s9 x1 ⊢
    have p9 := p7.same s9
    refine ⟨_, rfl, r, hR, dx, _, rfl, p9.ex, T.cl, T.n4, (by show 3 < 1000; decide), ?_⟩
    have e10 : putF "_names" (V.ref N1) (fsC v D1 D2) = (fsD v D1 D2 N1) := rfl
    rw [e10]
    have p10 := p9.put (fs' := (fsD v D1 D2 N1))
    have x1 := upd_ins_ne (z := .ins hR dx (fsD v D1 D2 N1)) p9.ex x1 (fun _ _ => nofun)
    have d1 := upd_ins_ne (z := .ins hR dx (fsD v D1 D2 N1)) p9.ex (s9 _ _ d1) (fun _ _ => nofun)
    have d2 := upd_ins_ne (z := .ins hR dx (fsD v D1 D2 N1)) p9.ex (s9 _ _ d2) (fun _ _ => nofun)
    have t1 := t1.to (Z := ZS K) fun _ _ h => Rp.updI (dx' := dx) (fs' := (fsD v D1 D2 N1)) p9.ex (Rp.keep s9 h)
    have t2 := t2.to (Z := ZF) fun _ _ h => PathOr.updI (dx' := dx) (fs' := (fsD v D1 D2 N1)) p9.ex (PathOr.keep s9 h)
    obtain ⟨HA, hHA⟩ : ∃ HA, HA = upd H9 r (.ins hR dx (fsD v D1 D2 N1)) := ⟨_, rfl⟩
    rw [← hHA] at p10 x1 d1 d2 t1 t2 ⊢
    refine tx_it (c := 5) (g := portsB) (.inr rfl) p10.la p10.ra st few2 ?_
    intro S2 HB nB sB eB
    refine ⟨S2, _, _, rfl, eB, few2, fun ps N2 b1 b2 b3 _ nN2 => ?_⟩
    have sC : Same HA (upd HB N2 (.lst (ps.map V.str))) := sB.trans (Same.new nN2)
    have x2 : upd HB N2 (.lst (ps.map V.str)) N2 = some (.lst (ps.map V.str)) := upd_same
    obtain ⟨HC, hHC⟩ : ∃ HC, HC = upd HB N2 (.lst (ps.map V.str)) := ⟨_, rfl⟩
    rw [← hHC] at sC x2 ⊢
    have pC := p10.same sC
    refine ⟨_, rfl, r, hR, dx, _, rfl, pC.ex, T.cl, T.n5, (by show 4 < 1000; decide), ?_⟩
    have eD : putF "_ports" (V.ref N2) (fsD v D1 D2 N1) = fsE v D1 D2 N1 N2 := rfl
    rw [eD]
    have pD := pC.put (fs' := fsE v D1 D2 N1 N2)
    refine k _ pD.sb ⟨⟨dx, D1, D2, N1, N2, k1, k2, pD.ex, upd_ins_ne pC.ex (sC _ _ d1) (fun _ _ => nofun), t1.to fun _ _ h => Rp.updI pC.ex (Rp.keep sC h), upd_ins_ne pC.ex (sC _ _ d2) (fun _ _ => nofun), t2.to fun _ _ h => PathOr.updI pC.ex (PathOr.keep sC h), ⟨ns, upd_ins_ne pC.ex (sC _ _ x1) (fun _ _ => nofun), a1, a2, fun q => ?_⟩, ⟨ps, upd_ins_ne pC.ex x2 (fun _ _ => nofun), b1, b2, fun q => ?_⟩⟩, pD.rp⟩ ⟨dx, v, D1, D2, N1, N2, pD.ex, fun b o e => ⟨fun z => ?_, fun z => ?_⟩⟩
    · rw [a3, allS_mem]
      exact decide_eq_true_iff
    · rw [b3, allS_mem]
      exact decide_eq_true_iff
    · subst z
      by_cases y : b = r
      · have q := s8 _ _ p7.ex
        rw [← y, nN1] at q
        cases q
      · have q := s8 _ _ (p7.sb _ o e y)
        rw [nN1] at q
        cases q
    · subst z
      by_cases y : b = r
      · have q := sB _ _ p10.ex
        rw [← y, nN2] at q
        cases q
      · have q := sB _ _ (p10.sb _ o e y)
        rw [nN2] at q
        cases q
end
end Oh
namespace Oh
open PySem PySem.Spec PyProof.Rows L2 PpSet
abbrev sRNames : Stmt := inClass (top 46) 2
abbrev sRPorts : Stmt := inClass (top 46) 3
abbrev sRFollower : Stmt := inClass (top 46) 7
/-- the new list of the texts -/
def spAsc (K : PySem.W.Frag) (hR : Addr) (g : DT → List Str) : Sp := fun vs H Q _ => ∃ r v d, vs = [.ref r] ∧ RoutD K H hR r v d ∧ ∀ (ys : List Str) (p : Addr), sortedS ys = true → ys.Nodup → (∀ k, k ∈ ys ↔ k ∈ allT g (rowsD d)) → H p = none → Q (.ref p) (upd H p (.lst (ys.map V.str)))
theorem TabAt.get {Z : Hp → V → LRow → Prop} {H : Hp} : ∀ {kvs : List (List L2.Key × V)} {rows : List LRow}, TabAt Z H kvs rows → ∀ q ∈ rows, ∃ q' v, q' ∈ rows ∧ q'.1 = q.1 ∧ valV kvs (keyP q.1) = some v ∧ Z H v q'
  | _, _, .nil, q, hq => by cases hq
  | _, _, .cons (a := kv) (b := r) (l₁ := a) (l₂ := b) h t, q, hq => by
    by_cases c : r.1 = q.1
    · refine ⟨r, kv.2, List.mem_cons_self, c, ?_, h.2⟩
      unfold valV
      rw [List.find?_cons_of_pos (by rw [h.1, c]; simp)]
      rfl
    · rcases List.mem_cons.mp hq with rfl | hq
      · exact absurd rfl c
      · obtain ⟨q', v, m, e, e2, z⟩ := TabAt.get t q hq
        refine ⟨q', v, List.mem_cons_of_mem _ m, e, ?_, z⟩
        unfold valV at e2 ⊢
        rw [List.find?_cons_of_neg (by rw [h.1]; simpa using fun z => c (keyP_inj z))]
        exact e2
theorem lay_one {f : Nat} {d : DT} {p : List Nat} {a b : OPath} {q q' : LRow} (h : q ∈ layR f d p a b) (h' : q' ∈ layR f d p a b) (e : q'.1 = q.1) : q' = q := by
  have two := lay_two f d p a b
  obtain ⟨i, hi, ei⟩ := List.mem_iff_getElem.mp h
  obtain ⟨j, hj, ej⟩ := List.mem_iff_getElem.mp h'
  by_cases c : i = j
  · subst c
    exact ej.symm.trans ei
  · rcases Nat.lt_or_gt_of_ne c with c | c
    · exact absurd (show _ = _ by rw [ei, ej]; exact e.symm) (List.pairwise_iff_getElem.mp two i j hi hj c)
    · exact absurd (show _ = _ by rw [ei, ej]; exact e) (List.pairwise_iff_getElem.mp two j i hj hi c)
/-- what comes behind the statement at the path -/
def spFol (K : PySem.W.Frag) (hR : Addr) : Sp := fun vs H Q _ => ∃ r v d p q, vs = [.ref r, .ref p] ∧ RoutD K H hR r v d ∧ q ∈ rowsD d ∧ H p = some (.tup (pathV q.1)) ∧ ∀ u, PathOr H u q.2.2 → Q u H
section
variable {P : Program} {w : World} {K : PySem.W.Frag} {mg : Str → Option Value} {base : Heap} {hR : Addr}
theorem scRNames : FnScope ["self"] ["self"] (defScope sRNames) := ⟨rfl, rfl, rfl, by decide +kernel, rfl, by decide +kernel, by decide +kernel⟩
theorem scRPorts : FnScope ["self"] ["self"] (defScope sRPorts) := ⟨rfl, rfl, rfl, by decide +kernel, rfl, by decide +kernel, by decide +kernel⟩
theorem scRFollower : FnScope ["self", "path"] ["self", "path"] (defScope sRFollower) := ⟨rfl, rfl, rfl, by decide +kernel, rfl, by decide +kernel, by decide +kernel⟩
theorem ok_names {f : Addr} {fd : FuncData} (F : Fun K "names" "Routine.names" sRNames f fd) (C : RCls K hR) (mL : mg "list" = none) : FnOk P w K mg base CX0 1 f fd ["self"] (spAsc K hR namesB) := by
  refine F.ok scRNames (fun vs H Q E h => ?_) (fun cdv A outer s H vs Q E hr h => ?_)
  · obtain ⟨r, v, d, rfl, _⟩ := h
    rfl
  · obtain ⟨r, v, d, rfl, R, k⟩ := h
    obtain ⟨dx, D1, D2, N1, N2, k1, k2, e, d1, t1, d2, t2, ⟨ys, e1, a1, a2, a3⟩, _⟩ := R.ex
    exact ⟨_, pss_one (ps_ret (pe_callTy call_list_of (by rfl) mL bb_list (pa_cons (pe_fld (pv 0) rfl) pa_nil))),
      ⟨_, rfl, r, hR, dx, _, _, rfl, e, C.cl, C.n4, rfl, N1, _, rfl, .inl (SqL.of e1), fun l nl => k ys l a1 a2 a3 nl⟩⟩
theorem ok_ports {f : Addr} {fd : FuncData} (F : Fun K "ports" "Routine.ports" sRPorts f fd) (C : RCls K hR) (mL : mg "list" = none) : FnOk P w K mg base CX0 1 f fd ["self"] (spAsc K hR portsB) := by
  refine F.ok scRPorts (fun vs H Q E h => ?_) (fun cdv A outer s H vs Q E hr h => ?_)
  · obtain ⟨r, v, d, rfl, _⟩ := h
    rfl
  · obtain ⟨r, v, d, rfl, R, k⟩ := h
    obtain ⟨dx, D1, D2, N1, N2, k1, k2, e, d1, t1, d2, t2, _, ys, e1, a1, a2, a3⟩ := R.ex
    exact ⟨_, pss_one (ps_ret (pe_callTy call_list_of (by rfl) mL bb_list (pa_cons (pe_fld (pv 0) rfl) pa_nil))),
      ⟨_, rfl, r, hR, dx, _, _, rfl, e, C.cl, C.n5, rfl, N2, _, rfl, .inl (SqL.of e1), fun l nl => k ys l a1 a2 a3 nl⟩⟩
theorem ok_follower {f : Addr} {fd : FuncData} (F : Fun K "follower" "Routine.follower" sRFollower f fd) (C : RCls K hR) : FnOk P w K mg base CX0 1 f fd ["self", "path"] (spFol K hR) := by
  refine F.ok scRFollower (fun vs H Q E h => ?_) (fun cdv A outer s H vs Q E hr h => ?_)
  · obtain ⟨r, v, d, p, q, rfl, _⟩ := h
    rfl
  · obtain ⟨r, v, d, p, q, rfl, R, hq, hp, k⟩ := h
    have hu := hu_of hr
    obtain ⟨dx, D1, D2, N1, N2, k1, k2, e, d1, t1, d2, t2, _⟩ := R.ex
    obtain ⟨q', u, m, eq, ev, z⟩ := t2.get q hq
    obtain rfl := lay_one hq m eq
    refine ⟨_, pss_one (ps_ret (pe_dget hu (pe_fld (pv 0) rfl) (pv 1) (fun _ _ => rfl))), ?_⟩
    refine ⟨_, rfl, r, hR, dx, _, _, rfl, e, C.cl, C.n3, rfl, _, rfl, D2, u, rfl, ?_, k u z⟩
    rw [← ev]
    exact DGet.t d2 (by rw [pathV_key]; exact hp)
end
end Oh
namespace Oh
open PySem PySem.Spec PyProof.Rows L2 PpSet
abbrev sIsPath : Stmt := top 12
def pathFormB (d : DT) : Bool := match d with
  | .tup l => decide (l.length ≤ 23) && (l.map intB).all id
  | _ => false
abbrev nPa : List Str := ["value", "step"]
section
variable {P : Program} {w : World} {K : PySem.W.Frag} {mg : Str → Option Value} {base : Heap} {kw : Addr}
theorem scIsPath : FnScope nPa ["value"] (defScope sIsPath) := ⟨rfl, rfl, rfl, by decide +kernel, rfl, by decide +kernel, by decide +kernel⟩
theorem ok_isPath {f fI : Addr} {fd fdI : FuncData} (F : Fun K "is_path" "is_path" sIsPath f fd) (T : TxtF K mg kw) (mP : ∃ t, mg "LONGEST_PATH" = some (.int 23 t))
    (GI : FnOk P w K mg base CX0 1 fI fdI ["value"] (spB K intB)) (kI : PySem.W.keepIn K (.ref fI) = true) (bI : Binds K fdI ["value"] []) (mI : mg "is_integer" = some (.ref fI)) : FnOk P w K mg base CX0 2 f fd ["value"] (spB K pathFormB) := by
  refine F.ok scIsPath (fun vs H Q E h => ?_) (fun cdv A outer s H vs Q E hr h => ?_)
  · obtain ⟨v, d, rfl, _⟩ := h
    rfl
  · obtain ⟨v, d, rfl, r, k⟩ := h
    have k0 := k H (Same.refl H)
    obtain ⟨t1, y1, z1⟩ := isi_of r (.inr (.inr (.inr rfl)))
    obtain ⟨t, ml⟩ := mP
    refine ⟨_, pss_cons (ps_if (pw_or (pt_not (pt_val (pe_isi (pv 0) mono_var T.isi T.tuple bb_tuple))) (pw_or1 (pt_cmpR op_gt (pe_callB call_len_seq (by rfl) T.len boot_len (pa_cons (pv 0) pa_nil)) (pe_glob (v := .int 23) (by rfl) ml ⟨t, rfl⟩) (nomark _)))).pt (pss_one (ps_ret pe_bl)) pss_nil)
      (pss_one (ps_ret (pe_callB (cr_all rfl) (by rfl) T.all boot_allO (pa_cons
        (pe_lc (own := [("step", 1)]) (g := gName 1) (tt := tYes) rfl scIsPath.nd (pi_tup (pv 0)) (blkOk_by (N := nPa) (sc := defScope sIsPath) (by decide +kernel)) (fun _ _ _ _ _ => pg_name (i := 1) scIsPath.nd rfl (Or.inl rfl)) (fun _ _ _ _ _ => pts_nil)
          (fun _ _ _ _ _ => pe_call GI hr (by rfl) mI kI bI .nil pass0 (pa_cons (pv 1) pa_nil))) pa_nil)))), ?_⟩
    refine ⟨_, rfl, t1, _, y1, z1, _, rfl, ?_⟩
    cases hb : isB d "tuple" with
    | false =>
      have e : pathFormB d = false := by
        cases d with
        | tup l => cases hb
        | _ => rfl
      rw [e] at k0
      exact iteT k0
    | true =>
      refine iteF ?_
      obtain ⟨l, rfl⟩ := isTup hb
      obtain ⟨p, xs, rfl, hp, ra⟩ := r.tup_inv
      have hl := ra.len
      refine ⟨_, rfl, p, xs, rfl, .inr (SqT.of hp), _, _, rfl, rfl, _, rfl, ?_⟩
      by_cases c : l.length ≤ 23
      rotate_left
      · refine ite2 (fun _ => ?_) (fun z => absurd (decide_eq_true (show (23 : Int) < xs.length by omega)) z)
        rw [show pathFormB (.tup l) = false by show (decide (l.length ≤ 23) && _) = false; rw [decide_eq_false c]; rfl] at k0
        exact k0
      · refine ite2 (fun z => absurd (of_decide_eq_true z) (by omega)) fun _ => ?_
        have e : pathFormB (.tup l) = (l.map intB).all id := by
          show (decide (l.length ≤ 23) && _) = _
          rw [decide_eq_true c, Bool.true_and]
        rw [e] at k
        refine ⟨_, rfl, p, rfl, ⟨_, SqT.of hp⟩, fun D nD => lc_it (walk_tup (xs := xs)) (fun i H' => Same H H' ∧ H' D = some (.lst (((l.map intB).take i).map V.bl))) ⟨Same.new nD, upd_same⟩ (fun i H' _ z => SqT.of (z.1 _ _ hp)) ?_ ?_⟩
        · rintro i x Ha Hb hi ⟨sa, da⟩ ⟨e, ex⟩
          subst e
          have li : i < l.length := by rw [← hl]; exact hi
          obtain ⟨vi, ev, rv⟩ := ra.get (i := i) (d := l[i]) (List.getElem?_eq_getElem li)
          obtain rfl := Option.some.inj (ev.symm.trans ex)
          have lc : (l.map intB)[i]? = some (intB l[i]) := by rw [List.getElem?_map, List.getElem?_eq_getElem li]; rfl
          refine ⟨rfl, _, rfl, vi, l[i], rfl, rv.keep sa, fun Hc sc => ⟨_, sc _ _ da, ?_, fun b o e => ?_, ?_⟩⟩
          · rw [List.length_map, List.length_take, List.length_map]
            exact Nat.lt_of_le_of_lt (Nat.min_le_right _ _) (Nat.lt_of_le_of_lt c (by decide))
          · rw [upd_ne (ne_of_none e nD)]
            exact sc _ _ (sa _ _ e)
          · rw [upd_same, List.take_add_one, lc]
            simp
        · rintro H2 ⟨s2, d2⟩
          refine ⟨D, l.map intB, rfl, SqL.of ?_, k H2 s2⟩
          rw [d2, List.take_of_length_le]
          rw [List.length_map, hl]
          exact Nat.le_refl _
end
end Oh
namespace Oh
open PySem PySem.Spec PyProof.Rows L2 PpSet
abbrev sRStatement : Stmt := inClass (top 46) 6
theorem AscAt.keep {H H' : Hp} (s : Same H H') {N : Addr} {l : List Str} (h : AscAt H N l) : AscAt H' N l := by
  obtain ⟨ys, a, b⟩ := h
  exact ⟨ys, s _ _ a, b⟩
theorem RoutD.keep {K : PySem.W.Frag} {H H' : Hp} {hR r : Addr} {v : V} {d : DT} (s : Same H H') (R : RoutD K H hR r v d) : RoutD K H' hR r v d := by
  obtain ⟨dx, D1, D2, N1, N2, k1, k2, e, d1, t1, d2, t2, a1, a2⟩ := R.ex
  exact ⟨⟨dx, D1, D2, N1, N2, k1, k2, s _ _ e, s _ _ d1, t1.to fun _ _ h => Rp.keep s h, s _ _ d2, t2.to fun _ _ h => PathOr.keep s h, a1.keep s, a2.keep s⟩, R.rp.keep s⟩
theorem short_b {rec : DT → List Nat → OPath → OPath → List LRow} {n : Nat} (h : ∀ d p a b, ∀ r ∈ rec d p a b, r.1.length + 1 ≤ p.length + n) {here : List Nat} {fol out : OPath} {rp : Bool} : ∀ (bs : List DT) (j : Nat), ∀ r ∈ layBlocks rec here fol out rp bs j, r.1.length + 1 ≤ here.length + 1 + n
  | [], _, r, hr => by cases hr
  | b :: bs, j, r, hr => by
    unfold layBlocks at hr
    rcases List.mem_append.mp hr with hr | hr
    · have : ∃ a c, r ∈ rec b (here ++ [j]) a c := by
        cases rp
        · rw [if_neg (by decide)] at hr; exact ⟨_, _, hr⟩
        · rw [if_pos rfl] at hr; exact ⟨_, _, hr⟩
      obtain ⟨a, c, hm⟩ := this
      have := h _ _ _ _ r hm
      rw [List.length_append, List.length_singleton] at this
      exact this
    · exact short_b h bs (j + 1) r hr
theorem short_i {rec : DT → List Nat → OPath → OPath → List LRow} {n : Nat} (h : ∀ d p a b, ∀ r ∈ rec d p a b, r.1.length + 1 ≤ p.length + n) {m : Nat} {path : List Nat} {behind out : OPath} : ∀ (ds : List DT) (i : Nat), ∀ r ∈ layItems rec m path behind out ds i, r.1.length + 1 ≤ path.length + (n + 2)
  | [], _, r, hr => by cases hr
  | d :: ds, i, r, hr => by
    unfold layItems at hr
    rcases List.mem_cons.mp hr with rfl | hr
    · show (path ++ [i]).length + 1 ≤ _
      rw [List.length_append, List.length_singleton]
      omega
    rcases List.mem_append.mp hr with hr | hr
    · have := short_b h _ _ r hr
      rw [List.length_append, List.length_singleton] at this
      omega
    · exact short_i h ds (i + 1) r hr
theorem lay_short : ∀ (f : Nat) (d : DT) (p : List Nat) (a b : OPath), ∀ r ∈ layR f d p a b, r.1.length + 1 ≤ p.length + 2 * f
  | 0, _, _, _, _, r, hr => by cases hr
  | f + 1, d, p, a, b, r, hr => by
    have := short_i (lay_short f) _ _ r hr
    omega
abbrev pathD (w : List Nat) : DT := .tup (w.map fun (n : Nat) => DT.int (n : Int))
theorem TabAt.none' {Z : Hp → V → LRow → Prop} {H : Hp} {kk : List L2.Key} : ∀ {kvs : List (List L2.Key × V)} {rows : List LRow}, TabAt Z H kvs rows → (∀ r ∈ rows, keyP r.1 ≠ kk) → valV kvs kk = Option.none
  | _, _, .nil, _ => rfl
  | _, _, .cons (a := kv) (b := r) h t, ne => by
    have n1 : ¬ kv.1 = kk := fun e => ne r (List.mem_cons_self ..) (h.1.symm.trans e)
    have z := TabAt.none' t fun q hq => ne q (List.mem_cons_of_mem _ hq)
    unfold valV at z ⊢
    rw [List.find?_cons_of_neg (by simpa using n1)]
    exact z
theorem ints_inv {K : PySem.W.Frag} {H : Hp} : ∀ {vs : List V} {l : List DT}, RpAll K H vs l → (l.map intB).all id = true → ∃ is : List Int, l = is.map DT.int ∧ vs = (is.map fun i => (.inl i : L2.Key)).map kV
  | _, _, .nil, _ => ⟨[], rfl, rfl⟩
  | _, _, .cons (d := d) r t, h => by
    rw [List.map_cons, List.all_cons, Bool.and_eq_true] at h
    obtain ⟨is, e1, e2⟩ := ints_inv t h.2
    cases r with
    | int i => exact ⟨i :: is, by rw [e1]; rfl, by rw [e2]; rfl⟩
    | _ => exact absurd h.1 (by simp [intB])
theorem key_path {w : List Nat} {is : List Int} (e : keyP w = is.map fun i => (.inl i : L2.Key)) : DT.tup (is.map DT.int) = pathD w := by
  have : is = w.map fun (n : Nat) => (n : Int) := by
    have h := congrArg (List.map fun k : L2.Key => match k with | .inl i => i | .inr _ => 0) e
    rw [List.map_map, List.map_map] at h
    have e1 : (List.map ((fun k : L2.Key => match k with | .inl i => i | .inr _ => 0) ∘ fun i => (.inl i : L2.Key)) is) = is := by
      show List.map (fun i => i) is = is
      exact List.map_id' is
    rw [e1] at h
    exact h.symm
  rw [this, List.map_map]
  rfl
/-- the statement at the path, or the error's path -/
def spStatement (K : PySem.W.Frag) (hR hNP : Addr) : Sp := fun vs H Q E => ∃ r v d vp dp, vs = [.ref r, vp] ∧ RoutD K H hR r v d ∧ Rp K H vp dp ∧ (∀ q ∈ rowsD d, dp = pathD q.1 → ∀ u H', Same H H' → Rp K H' u q.2.1 → Q u H') ∧
  ((∀ q ∈ rowsD d, dp ≠ pathD q.1) → ∀ e H', Same H H' → H' e = some (.xd [("what", vp)]) → E (.ref hNP) (some e) H')
section
variable {P : Program} {w : World} {K : PySem.W.Frag} {mg : Str → Option Value} {base : Heap} {hR hNP f1 : Addr}
theorem scRStatement : FnScope ["self", "path"] ["self", "path"] (defScope sRStatement) := ⟨rfl, rfl, rfl, by decide +kernel, rfl, by decide +kernel, by decide +kernel⟩
theorem ok_statementAt {f fI : Addr} {fd fd1 fdI : FuncData} (F : Fun K "statement" "Routine.statement" sRStatement f fd) (C : RCls K hR) (TE : ErrC K f1 hNP) (t1 : PySem.W.typeIn K (.ref f1) = some (.type "function")) (FE : EInit K f1 fd1) (mB : mg "NoPath" = some (.ref hNP))
    (GI : FnOk P w K mg base CX0 2 fI fdI ["value"] (spB K pathFormB)) (kI : PySem.W.keepIn K (.ref fI) = true) (bI : Binds K fdI ["value"] []) (mI : mg "is_path" = some (.ref fI)) : FnOk P w K mg base (L2.CX P w) 3 f fd ["self", "path"] (spStatement K hR hNP) := by
  refine F.okX scRStatement (fun vs H Q E h => ?_) (fun cdv A outer s H vs Q E hr h => ?_)
  · obtain ⟨r, v, d, vp, dp, rfl, _⟩ := h
    rfl
  · obtain ⟨r, v, d, vp, dp, rfl, R, rp, kq, ke⟩ := h
    have hr2 : Room 2 _ := hr.mono (by decide)
    have hu := hu_of hr2
    have GE : FnOk P w K mg base CX0 1 f1 fd1 ["self", "what"] (spEInitN K f1) := ok_einitN FE
    have bE := b_einit2 FE
    refine ⟨_, pss_cons (ps_if (pw_or (pt_not (pt_val (pe_call GI hr (by rfl) mI kI bI .nil pass0 (pa_cons (pv 1) pa_nil)))) (pw_or1 (pt_cmp (pc_dnotin hu (pv 1) (pe_fld (pv 0) rfl))))).pt (pss_one (ps_raiseE rfl (takes_of rfl rfl rfl rfl) TE t1 GE hr2 bE mB (pv 1))) pss_nil)
      (pss_one (ps_ret (pe_dget hu (pe_fld (pv 0) rfl) (pv 1) (fun _ _ => rfl)))), ?_⟩
    have row : ∀ q ∈ rowsD d, dp = pathD q.1 → pathFormB dp = true := fun q hq e => by
      subst e
      have := lay_short 12 d [] none none q hq
      show (decide ((q.1.map _).length ≤ 23) && ((q.1.map _).map intB).all id) = true
      rw [List.length_map, decide_eq_true (show q.1.length ≤ 23 by simp only [List.length_nil] at this; omega), Bool.true_and, List.map_map, List.all_map, List.all_eq_true]
      exact fun _ _ => rfl
    refine ⟨_, rfl, vp, dp, rfl, rp, fun H1 s1 => ⟨_, rfl, ?_⟩⟩
    cases hf : pathFormB dp with
    | false =>
      refine iteT ?_
      exact ⟨_, rfl, mko_err TE fun e ne => ke (fun q hq z => by rw [row q hq z] at hf; cases hf) e _ (s1.trans (Same.new ne)) upd_same⟩
    | true =>
      refine iteF ?_
      obtain ⟨l, rfl⟩ : ∃ l, dp = .tup l := by
        cases dp with
        | tup l => exact ⟨l, rfl⟩
        | _ => cases hf
      obtain ⟨p, xs, rfl, hp, ra⟩ := rp.tup_inv
      obtain ⟨is, e1, e2⟩ := ints_inv ra (Bool.and_eq_true_iff.mp hf).2
      subst e1
      subst e2
      have R1 := R.keep s1
      obtain ⟨dx, D1, D2, N1, N2, k1, k2, e, d1, t1, d2, t2, _⟩ := R1.ex
      have hp1 := s1 _ _ hp
      have dg := DGet.t d1 hp1
      refine ⟨_, rfl, _, rfl, r, hR, dx, _, _, rfl, e, C.cl, C.n2, rfl, D1, _, rfl, dg, ?_⟩
      by_cases c : ∃ q ∈ rowsD d, DT.tup (is.map DT.int) = pathD q.1
      · obtain ⟨q, hq, eq⟩ := c
        obtain ⟨q', u, m, eq', ev, z⟩ := t1.get q hq
        obtain rfl := lay_one hq m eq'
        have ek : keyP q'.1 = is.map fun i => (.inl i : L2.Key) := by
          have h := congrArg (fun d : DT => match d with | .tup l => l.map (fun x : DT => match x with | .int i => (.inl i : L2.Key) | _ => .inl 0) | _ => []) eq
          have h : List.map _ (List.map _ is) = List.map _ (List.map _ q'.1) := h
          rw [List.map_map, List.map_map] at h
          exact h.symm
        rw [ek] at ev
        rw [ev] at dg ⊢
        refine ⟨_, rfl, iteF ?_⟩
        exact ⟨_, rfl, r, hR, dx, _, _, rfl, e, C.cl, C.n2, rfl, _, rfl, D1, u, rfl, dg, kq q' hq eq u H1 s1 z⟩
      · have nv : valV k1 (is.map fun i => (.inl i : L2.Key)) = none := TabAt.none' t1 fun q hq z => c ⟨q, hq, key_path z⟩
        rw [nv]
        refine ⟨_, rfl, iteT ?_⟩
        exact ⟨_, rfl, mko_err TE fun e ne => ke (fun q hq z => c ⟨q, hq, z⟩) e _ (s1.trans (Same.new ne)) upd_same⟩
end
end Oh
namespace Oh
open PySem PySem.Spec PyProof.Rows L2 PpSet
abbrev sRPaths : Stmt := inClass (top 46) 4
/-- the list of the paths of all statements -/
def spPaths (K : PySem.W.Frag) (hR : Addr) : Sp := fun vs H Q _ => ∃ r v d, vs = [.ref r] ∧ RoutD K H hR r v d ∧ ∀ (bs : List Addr) (p : Addr), Paired (fun b q => H b = some (.tup (pathV q.1))) bs (rowsD d) → H p = none → Q (.ref p) (upd H p (.lst (bs.map V.ref)))
theorem keys_rows {Z : Hp → V → LRow → Prop} {H : Hp} : ∀ {kvs : List (List L2.Key × V)} {rows : List LRow} {bs : List Addr}, TabAt Z H kvs rows → IsKeys H kvs bs → Paired (fun b q => H b = some (.tup (pathV q.1))) bs rows
  | _, _, _, .nil, .nil => .nil
  | _, _, _, .cons h t, .cons g u => .cons (by rw [← pathV_key, ← h.1]; exact g) (keys_rows t u)
section
variable {P : Program} {w : World} {K : PySem.W.Frag} {mg : Str → Option Value} {base : Heap} {hR : Addr}
theorem scRPaths : FnScope ["self"] ["self"] (defScope sRPaths) := ⟨rfl, rfl, rfl, by decide +kernel, rfl, by decide +kernel, by decide +kernel⟩
theorem ok_paths {f : Addr} {fd : FuncData} (F : Fun K "paths" "Routine.paths" sRPaths f fd) (C : RCls K hR) (mL : mg "list" = none) : FnOk P w K mg base CX0 1 f fd ["self"] (spPaths K hR) := by
  refine F.ok scRPaths (fun vs H Q E h => ?_) (fun cdv A outer s H vs Q E hr h => ?_)
  · obtain ⟨r, v, d, rfl, _⟩ := h
    rfl
  · obtain ⟨r, v, d, rfl, R, k⟩ := h
    obtain ⟨dx, D1, D2, N1, N2, k1, k2, e, d1, t1, d2, t2, _⟩ := R.ex
    exact ⟨_, pss_one (ps_ret (pe_callTy (call_list_dT rfl) (by rfl) mL bb_list (pa_cons (pe_fld (pv 0) rfl) pa_nil))),
      ⟨_, rfl, r, hR, dx, _, _, rfl, e, C.cl, C.n2, rfl, D1, k1, rfl, .inl d1, fun l bs nl hk => k bs l (keys_rows t1 hk) nl⟩⟩
end
end Oh
namespace Oh
open PySem PySem.Spec PyProof.Rows L2 PpSet
/-! ### plain values -/
def plainB : Nat → DT → Bool
  | 0 => fun d => match d with
    | .tup _ => false
    | .oth => false
    | _ => true
  | n + 1 => fun d => match d with
    | .tup l => decide (l.length ≤ 1000) && l.all (plainB n)
    | .oth => false
    | _ => true
theorem plain_up : ∀ {n m : Nat} {d : DT}, n ≤ m → plainB n d = true → plainB m d = true
  | n, m, .non, _, _ => by cases m <;> rfl
  | n, m, .bl _, _, _ => by cases m <;> rfl
  | n, m, .int _, _, _ => by cases m <;> rfl
  | n, m, .str _, _, _ => by cases m <;> rfl
  | n, m, .oth, _, h => by cases n <;> cases h
  | 0, _, .tup _, _, h => by cases h
  | n + 1, 0, .tup _, h, _ => absurd h (by omega)
  | n + 1, m + 1, .tup l, h, z => by
    have z : (decide (l.length ≤ 1000) && l.all (plainB n)) = true := z
    obtain ⟨z1, z2⟩ := Bool.and_eq_true_iff.mp z
    show (decide (l.length ≤ 1000) && l.all (plainB m)) = true
    exact Bool.and_eq_true_iff.mpr ⟨z1, List.all_eq_true.mpr fun x hx => plain_up (by omega) (List.all_eq_true.mp z2 x hx)⟩
theorem plain_tup {n : Nat} {l : List DT} (hl : l.length ≤ 1000) (h : ∀ x ∈ l, plainB n x = true) : plainB (n + 1) (.tup l) = true := Bool.and_eq_true_iff.mpr ⟨decide_eq_true hl, List.all_eq_true.mpr h⟩
theorem plain_name {d : DT} (h : nameB d = true) {n : Nat} : plainB n d = true := by
  cases d with
  | str s => cases n <;> rfl
  | _ => cases h
theorem plain_digit {d : DT} (h : digitB d = true) {n : Nat} : plainB n d = true := by
  cases d with
  | int s => cases n <;> rfl
  | _ => cases h
theorem args_of {d : DT} {h : Str} {l : List DT} (e : d = .tup (.str h :: l)) {x : DT} (m : x ∈ l) : ∃ i, 1 ≤ i ∧ i < lenB d ∧ x = argB d i := by
  subst e
  obtain ⟨i, hi, rfl⟩ := List.mem_iff_getElem.mp m
  refine ⟨i + 1, by omega, ?_, ?_⟩
  · show i + 1 < (DT.str h :: l).length
    rw [List.length_cons]
    omega
  · show _ = (DT.str h :: l).getD (i + 1) .non
    rw [List.getD_eq_getElem?_getD, List.getElem?_cons_succ, List.getElem?_eq_getElem hi]
    rfl
theorem plain_expr : ∀ (n : Nat) (d : DT), exprB n d = true → plainB (n + 1) d = true
  | n, d, h => by
    cases hd : digitB d with
    | true => exact plain_digit hd
    | false =>
      rcases expr_inv h hd with ⟨h1, h2, h3⟩ | ⟨n', p, rfl, h1, h2, h3, h4⟩
      · obtain ⟨l, el⟩ := head_inv (d := d) (by rw [h1]; decide)
        have ll := fun {x} => args_of el (x := x)
        have le := len_of el
        rw [el]
        refine plain_tup (by omega) fun x hx => ?_
        rcases List.mem_cons.mp hx with rfl | hx
        · cases n <;> rfl
        · obtain ⟨i, i1, i2, rfl⟩ := ll hx
          obtain rfl : i = 1 := by omega
          exact plain_name h3
      · obtain ⟨l, el⟩ := head_inv (d := d) (parts_some h2).2.1
        have et : tailB d = l := by rw [el]; rfl
        rw [et] at h4
        have le := len_of el
        have p2 := (parts_some h2).2.2
        rw [el]
        refine plain_tup (by omega) fun x hx => ?_
        rcases List.mem_cons.mp hx with rfl | hx
        · rfl
        · exact plain_expr n' x (h4 x hx)
theorem plain_stmt {m : Nat} {d : DT} (h : stmtB d = true) (hb : ∀ b ∈ blocksB d, plainB m b = true) : plainB (m + 9) d = true := by
  obtain ⟨g, l, hk, hg, el⟩ := stmt_inv h
  have ll := fun {x} => args_of el (x := x)
  have le := len_of el
  have top : ∀ {k : Nat}, lenB d ≤ 4 → (∀ x ∈ l, plainB k x = true) → plainB (k + 1) d = true := fun {k} z4 z => by
    rw [el]
    refine plain_tup (by omega) fun x hx => ?_
    rcases List.mem_cons.mp hx with rfl | hx
    · cases k <;> rfl
    · exact z x hx
  have fin : lenB d ≤ 4 → (∀ x ∈ l, plainB (m + 8) x = true) → plainB (m + 9) d = true := fun z4 z => top z4 z
  unfold kindB at hk
  by_cases c1 : headB d = "set" ∨ headB d = "tell"
  · obtain ⟨z1, z2, z3⟩ := tell_len h c1
    refine fin (by omega) fun x hx => ?_
    obtain ⟨i, i1, i2, rfl⟩ := ll hx
    rcases (show i = 1 ∨ i = 2 by omega) with rfl | rfl
    · exact plain_name z2
    · exact plain_up (by omega) (plain_expr 4 _ z3)
  by_cases c2 : headB d = "hear"
  · obtain ⟨z1, z2, z3⟩ := hear_len h c2
    refine fin (by omega) fun x hx => ?_
    obtain ⟨i, i1, i2, rfl⟩ := ll hx
    rcases (show i = 1 ∨ i = 2 by omega) with rfl | rfl
    · exact plain_name z2
    · exact plain_name z3
  by_cases c3 : headB d = "wait"
  · obtain ⟨z1, z2, z3, _⟩ := wait_len h c3
    obtain ⟨rows, er, lr4⟩ := choice_inv z2
    have hbl : blocksB d = rows.map fun r => argB r 2 := by unfold blocksB; rw [if_neg (by rw [c3]; decide), if_neg (by rw [c3]; decide), if_neg (by rw [c3]; decide), if_pos c3, er]; rfl
    rw [er] at z3
    rw [hbl] at hb
    refine fin (by omega) fun x hx => ?_
    obtain ⟨i, i1, i2, rfl⟩ := ll hx
    obtain rfl : i = 1 := by omega
    rw [er]
    refine plain_up (n := m + 2) (by omega) (plain_tup (by omega) fun r hr => ?_)
    have zr := z3 r hr
    obtain ⟨lr, e3, l3⟩ := row_len zr
    have zn := row_names zr
    have zb := hb _ (List.mem_map_of_mem (f := fun r => argB r 2) hr)
    subst e3
    match lr, l3 with
    | [x0, x1, x2], _ =>
      refine plain_tup (by show 3 ≤ 1000; decide) fun x hx => ?_
      simp only [List.mem_cons, List.not_mem_nil, or_false] at hx
      rcases hx with rfl | rfl | rfl
      · exact plain_name zn.1
      · exact plain_name zn.2
      · exact zb
  by_cases c4 : headB d = "open"
  · obtain ⟨z1, z2, _⟩ := open_len h c4
    obtain ⟨bs, er, lb4⟩ := choice_inv z2
    have hbl : blocksB d = bs := by unfold blocksB; rw [if_neg (by rw [c4]; decide), if_neg (by rw [c4]; decide), if_pos c4, er]; rfl
    rw [hbl] at hb
    refine fin (by omega) fun x hx => ?_
    obtain ⟨i, i1, i2, rfl⟩ := ll hx
    obtain rfl : i = 1 := by omega
    rw [er]
    exact plain_up (n := m + 1) (by omega) (plain_tup (by omega) hb)
  by_cases c5 : headB d = "if"
  · obtain ⟨z1, _, _, z4⟩ := if_len h c5
    have hbl : blocksB d = [argB d 2, argB d 3] := by unfold blocksB; rw [if_pos c5]
    rw [hbl] at hb
    refine fin (by omega) fun x hx => ?_
    obtain ⟨i, i1, i2, rfl⟩ := ll hx
    rcases (show i = 1 ∨ i = 2 ∨ i = 3 by omega) with rfl | rfl | rfl
    · exact plain_up (by omega) (plain_expr 4 _ z4)
    · exact plain_up (by omega) (hb _ (by simp))
    · exact plain_up (by omega) (hb _ (by simp))
  by_cases c6 : headB d = "repeat"
  · obtain ⟨z1, _⟩ := repeat_len h c6
    have hbl : blocksB d = [argB d 1] := by unfold blocksB; rw [if_neg c5, if_pos c6]
    rw [hbl] at hb
    refine fin (by omega) fun x hx => ?_
    obtain ⟨i, i1, i2, rfl⟩ := ll hx
    obtain rfl : i = 1 := by omega
    exact plain_up (by omega) (hb _ (by simp))
  · rw [if_neg c1, if_neg c2, if_neg c3, if_neg c4, if_neg c5, if_neg c6] at hk
    split at hk
    · cases hk
      have z1 : lenB d = 1 := beq_iff_eq.mp hg
      refine fin (by omega) fun x hx => ?_
      obtain ⟨i, i1, i2, rfl⟩ := ll hx
      omega
    · cases hk
theorem plain_good : ∀ (f : Nat) (d : DT), goodR f d = true → plainB (10 * f) d = true
  | 0, d, h => by cases h
  | f + 1, d, h => by
    obtain ⟨l, rfl, l12, z⟩ := good_inv h
    refine plain_up (n := 10 * f + 9 + 1) (by omega) (plain_tup (by omega) fun x hx => ?_)
    exact plain_stmt (z x hx).1 fun b hb => plain_good f b ((z x hx).2 b hb)
theorem plain_path {w : List Nat} (h : w.length ≤ 1000) : plainB 1 (pathD w) = true := plain_tup (by rw [List.length_map]; exact h) fun x hx => by
  obtain ⟨n, _, rfl⟩ := List.mem_map.mp hx
  rfl
/-! ### few names -/
theorem allS_list (l : List Str) : ∃ m : List Str, m.Nodup ∧ m.length = (allS l).2 ∧ ∀ k ∈ m, k ∈ l := by
  suffices h : ∀ (l : List Str) (s : TSt) (m : List Str), m.Nodup → m.length = s.2 → (∀ k, s.1 k = decide (k ∈ m)) → ∃ m' : List Str, m'.Nodup ∧ m'.length = (l.foldl addS s).2 ∧ ∀ k ∈ m', k ∈ m ∨ k ∈ l by
    obtain ⟨m', a, b, d⟩ := h l (fun _ => false, 0) [] .nil rfl (fun k => by simp)
    exact ⟨m', a, b, fun k hk => (d k hk).resolve_left (by simp)⟩
  intro l
  induction l with
  | nil => exact fun s m a b c => ⟨m, a, b, fun k hk => .inl hk⟩
  | cons x r ih =>
    intro s m a b c
    rw [List.foldl_cons]
    have cx := c x
    by_cases hx : x ∈ m
    · rw [decide_eq_true hx] at cx
      obtain ⟨m', a', b', d'⟩ := ih (addS s x) m a (by show _ = if s.1 x = true then s.2 else s.2 + 1; rw [if_pos cx]; exact b) (fun k => by
        show (s.1 k || decide (k = x)) = _
        rw [c k]
        by_cases e : k = x
        · subst e
          simp [hx]
        · simp [e])
      exact ⟨m', a', b', fun k hk => (d' k hk).imp id (List.mem_cons_of_mem _)⟩
    · rw [decide_eq_false hx] at cx
      obtain ⟨m', a', b', d'⟩ := ih (addS s x) (x :: m) (List.nodup_cons.mpr ⟨hx, a⟩) (by show _ = if s.1 x = true then s.2 else s.2 + 1; rw [if_neg (by rw [cx]; decide), List.length_cons, b]) (fun k => by
        show (s.1 k || decide (k = x)) = _
        rw [c k]
        by_cases e : k = x
        · subst e
          simp
        · simp [e])
      refine ⟨m', a', b', fun k hk => ?_⟩
      rcases d' k hk with z | z
      · rcases List.mem_cons.mp z with rfl | z
        · exact .inr List.mem_cons_self
        · exact .inl z
      · exact .inr (List.mem_cons_of_mem _ z)
theorem allS_few {l S : List Str} (h : ∀ k ∈ l, k ∈ S) : (allS l).2 ≤ S.length := by
  obtain ⟨m, a, b, d⟩ := allS_list l
  rw [← b]
  exact a.length_le_of_subset fun k hk => h k (d k hk)
/-- of all statements of a block -/
def allR (p : DT → Prop) : Nat → DT → Prop
  | 0 => fun _ => True
  | f + 1 => fun b => ∀ d ∈ listB b, p d ∧ ∀ c ∈ blocksB d, allR p f c
theorem allR_b {p : DT → Prop} {rec : DT → List Nat → OPath → OPath → List LRow} {q : DT → Prop} (h : ∀ d w a b, q d → ∀ r ∈ rec d w a b, p r.2.1) {here : List Nat} {fol out : OPath} {rp : Bool} : ∀ (bs : List DT) (j : Nat), (∀ c ∈ bs, q c) → ∀ r ∈ layBlocks rec here fol out rp bs j, p r.2.1
  | [], _, _, r, hr => by cases hr
  | b :: bs, j, hb, r, hr => by
    unfold layBlocks at hr
    rcases List.mem_append.mp hr with hr | hr
    · cases rp
      · rw [if_neg (by decide)] at hr; exact h _ _ _ _ (hb b List.mem_cons_self) r hr
      · rw [if_pos rfl] at hr; exact h _ _ _ _ (hb b List.mem_cons_self) r hr
    · exact allR_b h bs (j + 1) (fun c hc => hb c (List.mem_cons_of_mem _ hc)) r hr
theorem allR_i {p : DT → Prop} {rec : DT → List Nat → OPath → OPath → List LRow} {q : DT → Prop} (h : ∀ d w a b, q d → ∀ r ∈ rec d w a b, p r.2.1) {m : Nat} {path : List Nat} {behind out : OPath} : ∀ (ds : List DT) (i : Nat), (∀ d ∈ ds, p d ∧ ∀ c ∈ blocksB d, q c) → ∀ r ∈ layItems rec m path behind out ds i, p r.2.1
  | [], _, _, r, hr => by cases hr
  | d :: ds, i, hd, r, hr => by
    unfold layItems at hr
    have h1 := hd d List.mem_cons_self
    rcases List.mem_cons.mp hr with rfl | hr
    · exact h1.1
    rcases List.mem_append.mp hr with hr | hr
    · exact allR_b h _ _ h1.2 r hr
    · exact allR_i h ds (i + 1) (fun c hc => hd c (List.mem_cons_of_mem _ hc)) r hr
theorem allR_rows {p : DT → Prop} : ∀ (f : Nat) (d : DT) (w : List Nat) (a b : OPath), allR p f d → ∀ r ∈ layR f d w a b, p r.2.1
  | 0, _, _, _, _, _, r, hr => by cases hr
  | f + 1, d, w, a, b, h, r, hr => allR_i (fun d w a b z => allR_rows f d w a b z) (listB d) 0 h r hr
/-- a statement's names and ports are among these -/
def NP (S1 S2 : List Str) (d : DT) : Prop := (∀ k ∈ namesB d, k ∈ S1) ∧ ∀ k ∈ portsB d, k ∈ S2
theorem np_names {S1 S2 : List Str} {d : DT} (h : allR (NP S1 S2) 12 d) : (allS (allT namesB (rowsD d))).2 ≤ S1.length := allS_few fun k hk => by
  obtain ⟨l, ml, kl⟩ := List.mem_flatten.mp hk
  obtain ⟨r, mr, rfl⟩ := List.mem_map.mp ml
  exact (allR_rows 12 d [] none none h r mr).1 k kl
theorem np_ports {S1 S2 : List Str} {d : DT} (h : allR (NP S1 S2) 12 d) : (allS (allT portsB (rowsD d))).2 ≤ S2.length := allS_few fun k hk => by
  obtain ⟨l, ml, kl⟩ := List.mem_flatten.mp hk
  obtain ⟨r, mr, rfl⟩ := List.mem_map.mp ml
  exact (allR_rows 12 d [] none none h r mr).2 k kl
/-! ### the first wrong item -/
theorem goBlocks_ok {rec : DT → List Nat → Bool → Option (List Nat)} {here : List Nat} {rep : Bool} : ∀ (bs r : List DT) (j : Nat), (∀ b ∈ bs, ∀ path, rec b path rep = none) → goBlocks rec here rep (bs ++ r) j = goBlocks rec here rep r (j + bs.length)
  | [], r, j, _ => rfl
  | b :: bs, r, j, h => by
    have e : goBlocks rec here rep (b :: (bs ++ r)) j = goBlocks rec here rep (bs ++ r) (j + 1) := by
      conv => lhs; unfold goBlocks
      rw [h b List.mem_cons_self]
    show goBlocks rec here rep (b :: (bs ++ r)) j = _
    rw [e, goBlocks_ok bs r (j + 1) fun c hc => h c (List.mem_cons_of_mem _ hc), List.length_cons, show j + 1 + bs.length = j + (bs.length + 1) by omega]
theorem goBlocks_fine {rec : DT → List Nat → Bool → Option (List Nat)} {here : List Nat} {rep : Bool} {bs : List DT} {j : Nat} (h : ∀ b ∈ bs, ∀ path, rec b path rep = none) : goBlocks rec here rep bs j = none := by
  have z := goBlocks_ok (here := here) bs [] j h
  rw [List.append_nil] at z
  exact z
/-- an item as it should be, with all that is in it -/
structure Fine (f n : Nat) (inr : Bool) (d : DT) : Prop where
  one : wrongB f n inr d = false
  inn : ∀ b ∈ blocksB d, ∀ path, firstR f b path (inr || decide (headB d = "repeat")) = none
theorem goItems_ok {f n : Nat} {path : List Nat} {inr : Bool} : ∀ (l r : List DT) (i : Nat), (∀ d ∈ l, Fine f n inr d) → goItems (firstR f) f n path inr (l ++ r) i = goItems (firstR f) f n path inr r (i + l.length)
  | [], r, i, _ => rfl
  | d :: l, r, i, h => by
    have h1 := h d List.mem_cons_self
    have e : goItems (firstR f) f n path inr (d :: (l ++ r)) i = goItems (firstR f) f n path inr (l ++ r) (i + 1) := by
      conv => lhs; unfold goItems
      rw [if_neg (by rw [h1.one]; decide), goBlocks_fine h1.inn]
    show goItems (firstR f) f n path inr (d :: (l ++ r)) i = _
    rw [e, goItems_ok l r (i + 1) fun c hc => h c (List.mem_cons_of_mem _ hc), List.length_cons, show i + 1 + l.length = i + (l.length + 1) by omega]
theorem first_fine {f : Nat} {l : List DT} {inr : Bool} (h : ∀ d ∈ l, Fine f (12 - f) inr d) (path : List Nat) : firstR (f + 1) (.tup l) path inr = none := by
  show goItems (firstR f) f (12 - f) path inr l 0 = none
  have z := goItems_ok (path := path) l [] 0 h
  rw [List.append_nil] at z
  exact z
theorem first_wrong1 {f : Nat} {l r : List DT} {d : DT} {inr : Bool} (h : ∀ d ∈ l, Fine f (12 - f) inr d) (w : wrongB f (12 - f) inr d = true) (path : List Nat) : firstR (f + 1) (.tup (l ++ d :: r)) path inr = some (path ++ [l.length]) := by
  show goItems (firstR f) f (12 - f) path inr (l ++ d :: r) 0 = _
  rw [goItems_ok l (d :: r) 0 h]
  unfold goItems
  rw [if_pos w, Nat.zero_add]
theorem wrong_not {f n : Nat} {inr : Bool} {d : DT} (h : stmtB d = false) : wrongB f n inr d = true := by
  unfold wrongB
  rw [if_pos (by unfold soundB; rw [h]; rfl)]
/-- a statement without blocks, no leave -/
structure Simp (d : DT) : Prop where
  st : stmtB d = true
  bl : blocksB d = []
  h1 : headB d ≠ "leave"
  h2 : headB d ≠ "repeat"
theorem Simp.sound {d : DT} (h : Simp d) (n : Nat) : soundB n d = true := by
  unfold soundB
  rw [h.st, h.bl]
  simp
theorem Simp.fine {d : DT} (h : Simp d) (f n : Nat) (inr : Bool) : Fine f n inr d := ⟨by
  unfold wrongB
  rw [if_neg (by rw [h.sound n]; decide), if_neg h.h1, decide_eq_false h.h2]
  rfl, fun b hb => by rw [h.bl] at hb; cases hb⟩
theorem Simp.all {d : DT} (h : Simp d) {p : DT → Prop} {f : Nat} (z : p d) : p d ∧ ∀ c ∈ blocksB d, allR p f c := ⟨z, fun c hc => by rw [h.bl] at hc; cases hc⟩
theorem Simp.count {d : DT} (h : Simp d) (f : Nat) : 1 + ((blocksB d).map (countR f)).sum = 1 := by rw [h.bl]; rfl
theorem head_tup (h : Str) (l : List DT) : headB (.tup (.str h :: l)) = h := rfl
theorem stmt_of {d : DT} {g : DT → Bool} (k : kindB (headB d) = some g) (z : g d = true) : stmtB d = true := by
  unfold stmtB
  rw [k]
  exact z
theorem kb_set : kindB "set" = some setTellB := by unfold kindB; rw [if_pos (Or.inl rfl)]
theorem kb_tell : kindB "tell" = some setTellB := by unfold kindB; rw [if_pos (Or.inr rfl)]
theorem kb_hear : kindB "hear" = some hearB := by unfold kindB; rw [if_neg (by decide), if_pos rfl]
theorem kb_wait : kindB "wait" = some waitB := by unfold kindB; rw [if_neg (by decide), if_neg (by decide), if_pos rfl]
theorem kb_open : kindB "open" = some openB := by unfold kindB; rw [if_neg (by decide), if_neg (by decide), if_neg (by decide), if_pos rfl]
theorem kb_if : kindB "if" = some ifB := by unfold kindB; rw [if_neg (by decide), if_neg (by decide), if_neg (by decide), if_neg (by decide), if_pos rfl]
theorem kb_repeat : kindB "repeat" = some repeatB := by unfold kindB; rw [if_neg (by decide), if_neg (by decide), if_neg (by decide), if_neg (by decide), if_neg (by decide), if_pos rfl]
theorem kb_word {h : Str} (e : h = "leave" ∨ h = "home" ∨ h = "fail") : kindB h = some wordB := by
  unfold kindB
  rcases e with rfl | rfl | rfl <;> rw [if_neg (by decide), if_neg (by decide), if_neg (by decide), if_neg (by decide), if_neg (by decide), if_neg (by decide), if_pos (by decide)]
theorem bl_none {d : DT} (h1 : headB d ≠ "if") (h2 : headB d ≠ "repeat") (h3 : headB d ≠ "open") (h4 : headB d ≠ "wait") : blocksB d = [] := by
  unfold blocksB
  rw [if_neg h1, if_neg h2, if_neg h3, if_neg h4]
theorem eq_head {h g : Str} {l : List DT} (n : h = g) : headB (.tup (.str h :: l)) = g := n
theorem ne_head {h g : Str} {l : List DT} (n : h ≠ g) : ¬ headB (.tup (.str h :: l)) = g := n
abbrev setD (n : Str) (e : DT) : DT := .tup [.str "set", .str n, e]
abbrev tellD (n : Str) (e : DT) : DT := .tup [.str "tell", .str n, e]
abbrev hearD (p n : Str) : DT := .tup [.str "hear", .str p, .str n]
abbrev homeD : DT := .tup [.str "home"]
abbrev failD : DT := .tup [.str "fail"]
abbrev leaveD : DT := .tup [.str "leave"]
abbrev repD (b : DT) : DT := .tup [.str "repeat", b]
abbrev ifD (e b c : DT) : DT := .tup [.str "if", e, b, c]
abbrev openD (bs : List DT) : DT := .tup [.str "open", .tup bs]
abbrev waitD (rs : List DT) : DT := .tup [.str "wait", .tup rs]
abbrev nameD (n : Str) : DT := .tup [.str "name", .str n]
theorem simp_set {n : Str} {e : DT} (h1 : nameB (.str n) = true) (h2 : exprB 4 e = true) : Simp (setD n e) :=
  ⟨stmt_of kb_set (by show (true && (nameB (.str n) && exprB 4 e)) = true; rw [h1, h2]; rfl), bl_none (ne_head (by decide)) (ne_head (by decide)) (ne_head (by decide)) (ne_head (by decide)), ne_head (by decide), ne_head (by decide)⟩
theorem simp_tell {n : Str} {e : DT} (h1 : nameB (.str n) = true) (h2 : exprB 4 e = true) : Simp (tellD n e) :=
  ⟨stmt_of kb_tell (by show (true && (nameB (.str n) && exprB 4 e)) = true; rw [h1, h2]; rfl), bl_none (ne_head (by decide)) (ne_head (by decide)) (ne_head (by decide)) (ne_head (by decide)), ne_head (by decide), ne_head (by decide)⟩
theorem simp_hear {p n : Str} (h1 : nameB (.str p) = true) (h2 : nameB (.str n) = true) : Simp (hearD p n) :=
  ⟨stmt_of kb_hear (by show (true && (nameB (.str p) && nameB (.str n))) = true; rw [h1, h2]; rfl), bl_none (ne_head (by decide)) (ne_head (by decide)) (ne_head (by decide)) (ne_head (by decide)), ne_head (by decide), ne_head (by decide)⟩
theorem simp_home : Simp homeD := ⟨stmt_of (kb_word (.inr (.inl rfl))) rfl, bl_none (ne_head (by decide)) (ne_head (by decide)) (ne_head (by decide)) (ne_head (by decide)), ne_head (by decide), ne_head (by decide)⟩
theorem simp_fail : Simp failD := ⟨stmt_of (kb_word (.inr (.inr rfl))) rfl, bl_none (ne_head (by decide)) (ne_head (by decide)) (ne_head (by decide)) (ne_head (by decide)), ne_head (by decide), ne_head (by decide)⟩
theorem blocks_rep (b : DT) : blocksB (repD b) = [b] := by unfold blocksB; rw [if_neg (ne_head (by decide)), if_pos (eq_head rfl)]; rfl
theorem blocks_if (e b c : DT) : blocksB (ifD e b c) = [b, c] := by unfold blocksB; rw [if_pos (eq_head rfl)]; rfl
theorem blocks_open (bs : List DT) : blocksB (openD bs) = bs := by unfold blocksB; rw [if_neg (ne_head (by decide)), if_neg (ne_head (by decide)), if_pos (eq_head rfl)]; rfl
theorem blocks_wait (rs : List DT) : blocksB (waitD rs) = rs.map fun r => argB r 2 := by unfold blocksB; rw [if_neg (ne_head (by decide)), if_neg (ne_head (by decide)), if_neg (ne_head (by decide)), if_pos (eq_head rfl)]; rfl
theorem stmt_rep {b : DT} : stmtB (repD b) = blockB b := by
  unfold stmtB
  rw [show headB (repD b) = "repeat" from rfl, kb_repeat]
  show (true && blockB b) = _
  rw [Bool.true_and]
theorem stmt_if {e b c : DT} : stmtB (ifD e b c) = (exprB 4 e && (blockB b && blockB c)) := by
  unfold stmtB
  rw [show headB (ifD e b c) = "if" from rfl, kb_if]
  show (true && (exprB 4 e && (blockB b && blockB c))) = _
  rw [Bool.true_and]
theorem stmt_open {bs : List DT} : stmtB (openD bs) = (choiceB (.tup bs) && (bs.map blockB).all id) := by
  unfold stmtB
  rw [show headB (openD bs) = "open" from rfl, kb_open]
  show (true && (choiceB (.tup bs) && (bs.map blockB).all id)) = _
  rw [Bool.true_and]
theorem stmt_wait {rs : List DT} : stmtB (waitD rs) = (choiceB (.tup rs) && ((rs.map rowB).all id && decide (rs.map portB).Nodup)) := by
  unfold stmtB
  rw [show headB (waitD rs) = "wait" from rfl, kb_wait]
  show (true && (choiceB (.tup rs) && ((rs.map rowB).all id && decide (rs.map portB).Nodup))) = _
  rw [Bool.true_and]
theorem block_tup (l : List DT) : blockB (.tup l) = decide (l.length ≤ 12) := rfl
/-- a block that deals at once is not quiet -/
theorem quiet_tell {f : Nat} {d : DT} {r : List DT} (h : Simp d) (t : headB d = "tell" ∨ headB d = "hear") : (quietR (f + 1) (.tup (d :: r))).1 = false := by
  have e : quietOf (quietR f) (12 - f) d = (false, false) := by
    unfold quietOf
    rw [if_neg (by rw [h.sound]; decide)]
    rcases t with t | t <;> rw [t] <;> rw [if_neg (by decide), if_neg (by decide), if_neg (by decide), if_neg (by decide)]
  show (quietL (quietOf (quietR f) (12 - f)) (d :: r) false).1 = false
  unfold quietL
  rw [e]
  rfl
/-- an item with blocks that is as it should be, but for what is in it -/
theorem wrong_rep {f n : Nat} {inr : Bool} {b : DT} (hn : n < 12) (hb : blockB b = true) (q : (quietR f b).1 = false) : wrongB f n inr (repD b) = false := by
  unfold wrongB
  rw [if_neg (by unfold soundB; rw [stmt_rep, hb, decide_eq_true hn]; simp), if_neg (ne_head (by decide)), show argB (repD b) 1 = b from rfl, q, Bool.and_false]
theorem wrong_oth {f n : Nat} {inr : Bool} {d : DT} (hn : n < 12) (hs : stmtB d = true) (h1 : headB d ≠ "leave") (h2 : headB d ≠ "repeat") : wrongB f n inr d = false := by
  unfold wrongB
  rw [if_neg (by unfold soundB; rw [hs, decide_eq_true hn]; simp), if_neg h1, decide_eq_false h2, Bool.false_and]
theorem wrong_deep {f : Nat} {inr : Bool} {d : DT} (hs : (blocksB d).length ≠ 0) : wrongB f 12 inr d = true := by
  unfold wrongB
  rw [if_pos (by unfold soundB; rw [decide_eq_false (by decide), beq_eq_false_iff_ne.mpr hs]; simp)]
/-! ### what is due -/
theorem due_no {d : DT} (hb : blockB d = false) : dueB d = some (some []) := by unfold dueB; rw [if_pos hb]
theorem due_path {d : DT} {w : List Nat} (hb : blockB d = true) (h : firstR 12 d [] false = some w) : dueB d = some (some w) := by
  unfold dueB
  rw [if_neg (by rw [hb]; decide), show firstB 11 d [] false = firstR 12 d [] false from rfl, h]
theorem due_let {d : DT} (hb : blockB d = true) (h : firstR 12 d [] false = none) (c : countR 12 d ≤ 6000) : dueB d = none := by
  unfold dueB
  rw [if_neg (by rw [hb]; decide), show firstB 11 d [] false = firstR 12 d [] false from rfl, h]
  exact if_neg (by show ¬ countR 12 d > 6000; omega)
theorem due_many {d : DT} (hb : blockB d = true) (h : firstR 12 d [] false = none) (c : countR 12 d > 6000) : dueB d = some none := by
  unfold dueB
  rw [if_neg (by rw [hb]; decide), show firstB 11 d [] false = firstR 12 d [] false from rfl, h]
  exact if_pos c
end Oh
namespace L2
open PySem PySem.Spec PyProof.Rows
section
variable {X : Cx} {CX : CXT} {x : Str} {C f : Addr} {k : Nat} {fd : FuncData} {ps : List Str} {sp : Sp} {E : L2.St → XK} {e : Expr} {es : List Expr} {t : TA} {p pos : Pos}
/-- C(e, ..), what it lets out told at the slots -/
def tMakeS (C : Addr) (sp : Sp) (E : L2.St → XK) (t : TA) : TE := fun σ H Q => t σ H fun vs H1 => ∀ x dx, H1 x = none → H1 dx = none → dx ≠ x →
  sp (.ref x :: vs) (upd (upd H1 dx (.own x)) x (.ins C dx [])) (fun v H2 => v = .non ∧ Q (.ref x) H2) (E σ)
theorem pe_makeS (M : Mk X.K C f) (F : FnOk X.prog X.w X.K X.mg X.base CX k f fd ps sp) (hr : Room (k + 1) X.A) (hg : Gl X x) (hm : X.mg x = some (.ref C)) (hb : Binds X.K fd ps []) (hx : ∀ σ, PassesAt CX X σ (E σ))
    (ha : PA X (e :: es) t) (hdb : (x == ("__debug__" : Str)) = false := by decide) (he : starEach (e :: es) X.env = (false, eval e X.env) :: starEach es X.env := by rfl) (hpl : (backTo pos (starEach es X.env)).any (·.1) = false := by rfl) :
    PE X (.Call (.Name x p) (e :: es) [] pos) (tMakeS C sp E t) := by
  refine ⟨fun pins s σ H Q I h => ?_⟩
  refine wpAny_Call_Name_kw (ld_glob I hg hm ?_ hdb)
  refine PySem.W.callWith_K (h₀ := X.base) I.ok.mod.kin M.kp (thn (ha.run pos pins s σ H _ I h) fun us s1 ⟨vs, H1, I1, r, q⟩ => ⟨I1.kIn, ?_⟩) he hpl
  have hq := q (s1.heap.objs.size + 1) s1.heap.objs.size (I1.hok.fresh (Nat.le_succ _)) (I1.hok.fresh (Nat.le_refl _)) (Nat.ne_of_lt (Nat.lt_succ_self _))
  have I2 := Inv.made (C := C) I1
  have r2 : Vals (V.ref (s1.heap.objs.size + 1) :: vs) (Value.ref (s1.heap.objs.size + 1) :: us) := .cons rfl r
  have hl : (Value.ref (s1.heap.objs.size + 1) :: us).length = ps.length := by
    have e := r2.length
    rw [F.len _ _ _ _ hq] at e
    exact e.symm
  have bb := hb _ (Value.ref (s1.heap.objs.size + 1) :: us) I2.kIn (by rw [List.append_nil]; exact hl)
  rw [List.append_nil] at bb
  refine wpAny_call (make_map (f := f) I1.kIn M.makes M.init (beq_iff_eq.mp M.fn) (codeAny_mono (F.run _ X.stack _ _ ⟨Value.ref (s1.heap.objs.size + 1) :: us, []⟩ (Value.ref (s1.heap.objs.size + 1) :: us) _ _ (E σ) (hr.make C us [])
    (I2.env0.make C us []) bb r2 hq) fun r s' hq' => ?_))
  cases r with
  | error e => exact hx σ pins _ _ e s' I2 hq'
  | ok fl =>
    cases fl with
    | ret u =>
      obtain ⟨v, H', I3, rv, ev, q3⟩ := I2.after hq'
      subst ev
      exact ⟨rv, ⟨V.ref (s1.heap.objs.size + 1), H', I3, rfl, q3⟩⟩
    | next => exact False.elim hq'
    | brk => exact False.elim hq'
    | cont => exact False.elim hq'
end
end L2
namespace Oh
open PySem PySem.Spec PyProof.Rows L2 PpSet
theorem pathA {K : PySem.W.Frag} {H : Hp} : ∀ w : List Nat, RpAll K H (pathV w) (w.map fun (n : Nat) => DT.int (n : Int))
  | [] => .nil
  | a :: r => .cons (.int _) (pathA r)
theorem path_rp {K : PySem.W.Frag} {H : Hp} {p : Addr} {w : List Nat} (h : H p = some (.tup (pathV w))) : Rp K H (.ref p) (pathD w) := .tup h (pathA w)
abbrev pathP (w : List Nat) : PyData := PyData.tuple (w.map fun (n : Nat) => PyData.int (n : Int))
theorem pathDp {K : PySem.W.Frag} {H : Hp} : ∀ w : List Nat, DpAll K H (pathV w) (w.map fun (n : Nat) => PyData.int (n : Int))
  | [] => .nil
  | a :: r => .cons (.int _) (pathDp r)
theorem path_dp {K : PySem.W.Frag} {H : Hp} {p : Addr} {w : List Nat} (h : H p = some (.tup (pathV w))) : Dp K H (.ref p) (pathP w) := .tup (SqT.of h) (pathDp w)
theorem shaped_path (w : List Nat) : SeqAt.shaped (pathP w) = true := by
  have h1 : ∀ w : List Nat, PyData.canLayAll0 (w.map fun (n : Nat) => PyData.int (n : Int)) = true := fun w => by
    induction w with
    | nil => simp [PyData.canLayAll0]
    | cons a r ih => simp only [List.map_cons, PyData.canLayAll0, PyData.canLay0, ih, Bool.and_self]
  have h2 : ∀ w : List Nat, PyData.depthAll (w.map fun (n : Nat) => PyData.int (n : Int)) = 0 := fun w => by
    induction w with
    | nil => simp [PyData.depthAll]
    | cons a r ih => simp only [List.map_cons, PyData.depthAll, PyData.depth, ih, Nat.max_self]
  show (PyData.canLay0 (pathP w) && decide (PyData.depth (pathP w) ≤ 64)) = true
  rw [show PyData.canLay0 (pathP w) = true by simp only [PyData.canLay0, h1], show PyData.depth (pathP w) = 1 by simp only [PyData.depth, h2]]
  rfl
theorem shaped_let : SeqAt.shaped (PyData.str "let") = true := by decide +kernel
theorem eqv_path (w : List Nat) : PyData.eqv (pathP w) (PyData.str "let") = false := by simp only [PyData.eqv]
theorem eqv_none : PyData.eqv PyData.none (PyData.str "let") = false := by simp only [PyData.eqv]
theorem eqv_let : PyData.eqv (PyData.str "let") (PyData.str "let") = true := by decide +kernel
end Oh
/-! dict(zip(l, t)), l a list of keys, t a tuple of as many values -/
namespace DZ
open PySem
open PySem.Sem (wp)
section
variable {prog : Program} {w : World} {A : Around} {E : Value → Shared → Prop} {s : Shared} {z TI TO T i1 i2 : Addr} {fp1 fp2 : List Addr} {n1 n2 i : Nat} {P1 P2 : Nat → Value → Prop} {St1 St2 : Nat → Heap → Prop} {f : Bool} {oT : Obj}
/-- one more pair while the last one is still out -/
theorem item_held {Q : Option Value → Shared → Prop} (S : ZipSep2 z TI TO i1 i2 fp1 fp2) (D1 : Draws prog w A.in1 i1 fp1 n1 P1 St1) (D2 : Draws prog w A.in1 i2 fp2 n2 P2 St2)
    (hz : IsZipHeld s.heap z TI TO T f) (hT : s.heap.get? T = some oT) (hTI : IsTupOf2 s.heap TI (.ref i1) (.ref i2)) (st1 : St1 i s.heap) (st2 : St2 i s.heap) (l1 : i < n1) (l2 : i < n2)
    (hQ : ∀ x1 x2 h' tk, P1 i x1 → P2 i x2 → IsZipHeld h' z TI TO T true → St1 (i + 1) h' → St2 (i + 1) h' → IsTupOf2 h' s.heap.objs.size x1 x2 →
      (∀ c o, c ≠ z → c ≠ i1 → c ≠ i2 → s.heap.get? c = some o → h'.get? c = some o) → Q (some (.ref s.heap.objs.size)) { s with heap := h', toks := tk }) :
    wpAny (model prog w) A (pyNext (.ref z)) Q E s := by
  have hTy : s.TypeIs (.ref z) "zip" := ⟨_, hz, rfl⟩
  unfold pyNext
  refine wpAny_bind (wpAny_attempt (wpAny_callSpecial?_slot (name := Str.ofString "__next__") hTy F.slot_zip_next (wpAny_call_entry F.slot_zip_next hTy F.entry_zip_next ?_ (F.args_zip_next_1 _))))
  obtain ⟨hp, g, d, tk0, os⟩ := s
  show wpAny _ _ (field (.ref z) 2 >>= _) _ _ _
  refine wpAny_bind (wpAny_field hz rfl (x := .bool false) rfl ?_)
  show wpAny _ _ (field (.ref z) 3 >>= _) _ _ _
  refine wpAny_bind (wpAny_field hz rfl (x := .ref TI) rfl ?_)
  refine wpAny_bind (wpAny_seqItems hTI rfl ?_)
  show wpAny _ _ (Builtin.SmallTypes.ownedTupleIsFree (.ref z) >>= _) _ _ _
  refine wpAny_bind (wpAny_tupleHeld_zip hz hT fun g0 hz0 hs0 => ?_)
  replace hs0 : Heap.SameBut z hp g0 := hs0
  simp only [Bool.false_eq_true, if_false]
  refine wpAny_bind ?_
  rw [← Array.forIn_toList]
  simp only [List.forIn_cons, List.forIn_nil]
  refine wpAny_bind (wpAny_bind (wpAny_holding ?_))
  show wpAny _ _ (Builtin.SmallTypes.nextOf (.ref i1) >>= _) _ _ ⟨g0, g, d, tk0, os⟩
  refine wpAny_bind (D1.item i _ _ _ l1 (D1.over st1 hs0 S.zf1) fun x1 p1 tk1 hx1 sn1 hp1 => wpAny_pure ?_)
  replace hp1 : Heap.SameBut i1 g0 p1 := hp1
  refine wpAny_pure ?_
  refine wpAny_bind (wpAny_bind (wpAny_holding ?_))
  show wpAny _ _ (Builtin.SmallTypes.nextOf (.ref i2) >>= _) _ _ ⟨p1, g, d, tk1, os⟩
  refine wpAny_bind (D2.item i _ _ _ l2 (D2.over (D2.over st2 hs0 S.zf2) hp1 S.sep1_2) fun x2 p2 tk2 hx2 sn2 hp2 => wpAny_pure ?_)
  replace hp2 : Heap.SameBut i2 p1 p2 := hp2
  refine wpAny_pure (wpAny_pure ?_)
  show wpAny _ _ (newTuple [x1, x2] >>= _) _ _ _
  refine wpAny_bind (wpAny_newTuple ?_)
  have hsz : p2.objs.size = hp.objs.size := by rw [hp2.1, hp1.1, hs0.1]
  have hzz : IsZipHeld p2 z TI TO T true := hp2.extBut _ _ S.zi2 (hp1.extBut _ _ S.zi1 hz0)
  have up : ∀ c o, p2.get? c = some o → (p2.push { cls := .type "tuple", data := .seq #[x1, x2] }).get? c = some o := fun c o e => Heap.get?_push_of_some _ e
  have hT2 : IsTupOf2 (p2.push { cls := .type "tuple", data := .seq #[x1, x2] }) p2.objs.size x1 x2 := Heap.get?_push_size _ rfl
  have hj1 : St1 (i + 1) p2 := D1.over sn1 hp2 S.sep2_1
  refine wpAny_pure ?_
  rw [hsz] at hT2
  refine ⟨_, rfl, wpAny_pure ?_⟩
  show Q (some (.ref p2.objs.size)) _
  rw [hsz]
  exact hQ x1 x2 _ tk2 hx1 hx2 (up _ _ hzz) (D1.frame _ _ _ hj1 fun b hb o e => up b o e) (D2.frame _ _ _ sn2 fun b hb o e => up b o e) hT2 fun c o cz c1 c2 e => up _ _ (hp2.extBut _ _ c2 (hp1.extBut _ _ c1 (hs0.extBut _ _ cz e)))
theorem end_held {Q : Option Value → Shared → Prop} (S : ZipSep2 z TI TO i1 i2 fp1 fp2) (D1 : Draws prog w A.in1 i1 fp1 n1 P1 St1)
    (hz : IsZipHeld s.heap z TI TO T f) (hT : s.heap.get? T = some oT) (hTI : IsTupOf2 s.heap TI (.ref i1) (.ref i2)) (st1 : St1 n1 s.heap)
    (hQ : ∀ h' tk, (∀ c o, c ≠ z → c ≠ i1 → c ≠ i2 → s.heap.get? c = some o → h'.get? c = some o) → Q none { s with heap := h', toks := tk }) :
    wpAny (model prog w) A (pyNext (.ref z)) Q E s := by
  have hTy : s.TypeIs (.ref z) "zip" := ⟨_, hz, rfl⟩
  unfold pyNext
  refine wpAny_bind (wpAny_attempt (wpAny_callSpecial?_slot (name := Str.ofString "__next__") hTy F.slot_zip_next (wpAny_call_entry F.slot_zip_next hTy F.entry_zip_next ?_ (F.args_zip_next_1 _))))
  obtain ⟨hp, g, d, tk0, os⟩ := s
  show wpAny _ _ (field (.ref z) 2 >>= _) _ _ _
  refine wpAny_bind (wpAny_field hz rfl (x := .bool false) rfl ?_)
  show wpAny _ _ (field (.ref z) 3 >>= _) _ _ _
  refine wpAny_bind (wpAny_field hz rfl (x := .ref TI) rfl ?_)
  refine wpAny_bind (wpAny_seqItems hTI rfl ?_)
  show wpAny _ _ (Builtin.SmallTypes.ownedTupleIsFree (.ref z) >>= _) _ _ _
  refine wpAny_bind (wpAny_tupleHeld_zip hz hT fun g0 hz0 hs0 => ?_)
  replace hs0 : Heap.SameBut z hp g0 := hs0
  simp only [Bool.false_eq_true, if_false]
  refine wpAny_bind ?_
  rw [← Array.forIn_toList]
  simp only [List.forIn_cons, List.forIn_nil]
  refine wpAny_bind (wpAny_bind (wpAny_holding ?_))
  show wpAny _ _ (Builtin.SmallTypes.nextOf (.ref i1) >>= _) _ _ ⟨g0, g, d, tk0, os⟩
  refine wpAny_bind (D1.done ⟨g0, g, d, tk0, os⟩ _ _ (D1.over st1 hs0 S.zf1) fun q e hq he => ?_)
  obtain ⟨o, ho, hc⟩ := he
  refine wpAny_bind (wpAny_isInstance (T := "StopIteration") (b := true) ⟨o, ho, hc⟩ isSubtype_stop ?_)
  exact wpAny_pure (hQ _ _ fun c o cz c1 _ e => hq _ _ c1 (hs0.extBut _ _ cz e))
/-- what a zip over a list and a tuple gives out, pair by pair, for dict() -/
def Ok (z TI TO i1 i2 l1 l2 : Addr) (xs ys : Array Value) (h : Heap) : Prop :=
  IsZip h z TI TO .none ∧ IsTupOf2 h TI (.ref i1) (.ref i2) ∧ (∃ a b, IsTupOf2 h TO a b) ∧ (h.IsListIter i1 l1 0 ∧ h.IsList l1 xs) ∧ (h.IsTupleIter i2 l2 0 ∧ h.IsTuple l2 ys)
def Stt (z TI TO i1 i2 l1 l2 d : Addr) (xs ys : Array Value) (i : Nat) (h : Heap) : Prop :=
  IsTupOf2 h TI (.ref i1) (.ref i2) ∧ (h.IsListIter i1 l1 i ∧ h.IsList l1 xs) ∧ (h.IsTupleIter i2 l2 i ∧ h.IsTuple l2 ys) ∧
    ((IsZip h z TI TO .none ∧ ∃ a b, IsTupOf2 h TO a b) ∨ ∃ T f oT, IsZipHeld h z TI TO T f ∧ h.get? T = some oT ∧ T ≠ z ∧ T ≠ i1 ∧ T ≠ i2 ∧ T ≠ d)
theorem src {z TI TO i1 i2 l1 l2 d : Addr} {xs ys : Array Value} (hh : A.handled = none) (S : ZipSep2 z TI TO i1 i2 [i1, l1] [i2, l2]) (hl1 : l1 ≠ i1) (hl2 : l2 ≠ i2) (hsz : xs.size = ys.size) (hd : d ∉ [z, TI, TO, i1, i2, l1, l2]) :
    PairSrc prog w A z d [z, TO, i1, i2] xs.size (fun i k v => xs[i]? = some k ∧ ys[i]? = some v) (Stt z TI TO i1 i2 l1 l2 d xs ys) := by
  simp only [List.mem_cons, List.not_mem_nil, or_false, not_or] at hd
  obtain ⟨dz, dTI, dTO, di1, di2, dl1, dl2⟩ := hd
  have D1 := Draws.list (prog := prog) (w := w) (A := A.in1) hh i1 l1 hl1 xs
  have D2 := Draws.tuple (prog := prog) (w := w) (A := A.in1) hh i2 l2 hl2 ys
  refine ⟨?_, ?_, ?_, ?_⟩
  · intro h
    simp only [List.mem_cons, List.not_mem_nil, or_false] at h
    rcases h with e | e | e | e
    · exact dz e
    · exact dTO e
    · exact di1 e
    · exact di2 e
  · intro i h h' ⟨a, b, c, e⟩ hk
    refine ⟨hk _ _ (Ne.symm dTI) a, D1.frame _ _ _ b fun x hx o ho => hk x o (fun q => ?_) ho, D2.frame _ _ _ c fun x hx o ho => hk x o (fun q => ?_) ho, ?_⟩
    · subst q
      simp only [List.mem_cons, List.not_mem_nil, or_false] at hx
      rcases hx with q | q
      · exact di1 q
      · exact dl1 q
    · subst q
      simp only [List.mem_cons, List.not_mem_nil, or_false] at hx
      rcases hx with q | q
      · exact di2 q
      · exact dl2 q
    · rcases e with ⟨e1, a1, a2, e2⟩ | ⟨T, f, oT, e1, e2, e3⟩
      · exact .inl ⟨hk _ _ (Ne.symm dz) e1, a1, a2, hk _ _ (Ne.symm dTO) e2⟩
      · exact .inr ⟨T, f, oT, hk _ _ (Ne.symm dz) e1, hk _ _ e3.2.2.2 e2, e3⟩
  · intro i s Q E hi ⟨a, b, c, e⟩ hds hQ
    have hi2 : i < ys.size := hsz ▸ hi
    have lt : ∀ {c o}, s.heap.get? c = some o → s.heap.objs.size ≠ c := fun e => Nat.ne_of_gt (Heap.lt_size e)
    have n1 : s.heap.objs.size ≠ i1 := let ⟨_, e⟩ := D1.live _ _ b; lt e
    have n2 : s.heap.objs.size ≠ i2 := let ⟨_, e⟩ := D2.live _ _ c; lt e
    have out : ∀ {h' : Heap} {T : Addr} {x1 x2 : Value} {c : Addr} {o : Obj}, c ∉ [z, TO, i1, i2] → c ≠ z ∧ c ≠ TO ∧ c ≠ i1 ∧ c ≠ i2 := fun h => by simpa using h
    rcases e with ⟨e1, a1, a2, e2⟩ | ⟨T, f, oT, e1, e2, e3, e4, e5, e6⟩
    · refine wpAny_pyNext_zipD2_item S D1 D2 e1 a e2 b c hi hi2 fun x1 x2 h' tk y1 y2 b1 b2 s1 s2 b5 b6 hk => ?_
      refine hQ s.heap.objs.size x1 x2 h' tk ⟨y1, y2⟩ (.inl ⟨_, b5, rfl, _, rfl⟩) ⟨hk _ _ S.TIz S.TITO S.TIi1 S.TIi2 a, s1, s2, .inr ⟨s.heap.objs.size, false, _, b1, b5, lt e1, n1, n2, Nat.ne_of_gt hds⟩⟩ fun c o hc e => ?_
      have q : c ≠ z ∧ c ≠ TO ∧ c ≠ i1 ∧ c ≠ i2 := by simpa using hc
      exact hk c o q.1 q.2.1 q.2.2.1 q.2.2.2 e
    · refine item_held S D1 D2 e1 e2 a b c hi hi2 fun x1 x2 h' tk y1 y2 b1 s1 s2 b5 hk => ?_
      refine hQ s.heap.objs.size x1 x2 h' tk ⟨y1, y2⟩ (.inl ⟨_, b5, rfl, _, rfl⟩) ⟨hk _ _ S.TIz S.TIi1 S.TIi2 a, s1, s2, .inr ⟨T, true, oT, b1, hk _ _ e3 e4 e5 e2, e3, e4, e5, e6⟩⟩ fun c o hc e => ?_
      have q : c ≠ z ∧ c ≠ TO ∧ c ≠ i1 ∧ c ≠ i2 := by simpa using hc
      exact hk c o q.1 q.2.2.1 q.2.2.2 e
  · intro s Q E ⟨a, b, c, e⟩ hQ
    rcases e with ⟨e1, a1, a2, e2⟩ | ⟨T, f, oT, e1, e2, e3⟩
    · refine wpAny_pyNext_zipD2_end S D1 D2 e1 a e2 b (hsz ▸ c) (Nat.le_refl _) (Nat.le_of_eq hsz) (.inl rfl) fun h' tk hk => hQ h' tk fun c o hc e => ?_
      have q : c ≠ z ∧ c ≠ TO ∧ c ≠ i1 ∧ c ≠ i2 := by simpa using hc
      exact hk c o q.1 q.2.1 q.2.2.1 q.2.2.2 e
    · refine end_held S D1 e1 e2 a b fun h' tk hk => hQ h' tk fun c o hc e => ?_
      have q : c ≠ z ∧ c ≠ TO ∧ c ≠ i1 ∧ c ≠ i2 := by simpa using hc
      exact hk c o q.1 q.2.2.1 q.2.2.2 e
theorem arg {z TI TO i1 i2 l1 l2 : Addr} {xs ys : Array Value} (S : ZipSep2 z TI TO i1 i2 [i1, l1] [i2, l2]) (hl1 : l1 ≠ i1) (hl2 : l2 ≠ i2) (hsz : xs.size = ys.size) :
    PairArg prog w "zip" z [z, TI, TO, i1, i2, l1, l2] [z, TO, i1, i2] xs.size (fun i k v => xs[i]? = some k ∧ ys[i]? = some v) (Ok z TI TO i1 i2 l1 l2 xs ys) where
  type := fun s ok => ⟨_, ok.1, rfl⟩
  notDict := by decide
  keep := fun h h' ⟨a, b, ⟨x, y, c⟩, d, e⟩ hk => ⟨hk _ _ a, hk _ _ b, ⟨x, y, hk _ _ c⟩, ⟨d.1.at fun o e => hk _ o e, d.2.at fun o e => hk _ o e⟩, e.1.at fun o e => hk _ o e, e.2.at fun o e => hk _ o e⟩
  there := fun h ⟨a, b, ⟨x, y, c⟩, ⟨⟨o1, d1, _⟩, ⟨o2, d2, _⟩⟩, ⟨o3, e1, _⟩, ⟨o4, e2, _⟩⟩ b' hb => by
    simp only [List.mem_cons, List.not_mem_nil, or_false] at hb
    rcases hb with rfl | rfl | rfl | rfl | rfl | rfl | rfl
    all_goals first | exact ⟨_, a⟩ | exact ⟨_, b⟩ | exact ⟨_, c⟩ | exact ⟨_, d1⟩ | exact ⟨_, d2⟩ | exact ⟨_, e1⟩ | exact ⟨_, e2⟩
  sub := fun b hb => by simp at hb ⊢; rcases hb with rfl | rfl | rfl | rfl <;> simp
  noKeys := fun A s Q E hA ok h => getAttrOr_miss_zip ok.1 rfl rfl rfl zip_no_keys (by decide +kernel) hA h
  iter := fun A s d Q E hA ⟨a, b, c, e1, e2⟩ hd hdf h => wpAny_pyIter_zip a (h z [z, TO, i1, i2] (Stt z TI TO i1 i2 l1 l2 d xs ys) s.heap s.toks (src hA S hl1 hl2 hsz hdf) ⟨b, e1, e2, .inl ⟨a, c⟩⟩ (fun _ _ e => e) fun b hb => .inl hb)
end
end DZ

namespace L2
open PySem PySem.Spec PyProof.Rows
/-- the keys and the values of a dict(zip(..)) -/
def tDZip (K : PySem.W.Frag) (ta : TA) : TE := fun σ H Q => ta σ H fun vs H1 => ∃ (a b : Addr) (ks : List Key) (ys : List V), vs = [.ref a, .ref b] ∧ SqL K H1 a (ks.map kV) ∧ SqT K H1 b ys ∧ ks.length = ys.length ∧
  ∀ p, H1 p = none → Q (.ref p) (upd H1 p (.dK (mergeK [] (ks.zip ys))))
theorem zip_rel : ∀ {ks : List Key} {ys : List V} {us ws : List Value}, Vals (ks.map kV) us → Vals ys ws → KV (ks.zip ys) (ks.zip ws)
  | [], _, _, _, _, _ => .nil
  | _ :: _, [], _, [], _, _ => .nil
  | k :: ks, y :: ys, _, _, h, t => by
    rw [List.map_cons] at h
    cases h with
    | cons h1 h2 =>
      cases t with
      | cons t1 t2 => exact .cons ⟨rfl, t1⟩ (zip_rel h2 t2)
theorem pe_dzip {X : Cx} {e e2 : Expr} {ta : TA} {p pos p0 pos0 : Pos} (hcalm : X.calm = true) (hg : Gl X "zip") (hm : X.mg "zip" = none) (hgd : Gl X "dict") (hmd : X.mg "dict" = none) (ha : PA X [e, e2] ta)
    (hs : starEach [e, e2] X.env = (false, eval e X.env) :: starEach [e2] X.env := by rfl) (hpl : (backTo pos (starEach [e2] X.env)).any (·.1) = false := by rfl)
    (hs0 : starEach [.Call (.Name "zip" p) [e, e2] [] pos] X.env = (false, eval (.Call (.Name "zip" p) [e, e2] [] pos) X.env) :: starEach [] X.env := by rfl) (hpl0 : (backTo pos0 (starEach [] X.env)).any (·.1) = false := by rfl) :
    PE X (.Call (.Name "dict" p0) [.Call (.Name "zip" p) [e, e2] [] pos] [] pos0) (tDZip X.K ta) := by
  refine ⟨fun pins s σ H Q I h => ?_⟩
  refine wpAny_Call_Name_kw (ld_blt I hgd hmd PyProof.Rows.boot_dict ?_)
  refine PyProof.Rows.callWith_type1 (PyProof.Rows.spliced_more ?_ hs0) hs0 hpl0
  refine PyProof.Rows.Call_ (ld_blt I hg hm PyProof.Rows.boot_zip (PyProof.Rows.callWith_type1 (thn (ha.run pos pins s σ H _ I h) fun us s1 ⟨vs, H1, I1, r1, q1⟩ => ?_) hs hpl))
  obtain ⟨a, b, ks, ys, ex, hqx, hqy, hl, q⟩ := q1
  subst ex
  cases r1 with
  | cons r rr =>
    cases rr with
    | cons r' rr =>
      cases rr
      cases r
      cases r'
      obtain ⟨its, rv, p1, hz⟩ := I1.list hqx
      obtain ⟨its2, rv2, p2, _⟩ := I1.tuple hqy
      have la : a < s1.heap.objs.size := p1.lt
      have lb : b < s1.heap.objs.size := p2.lt
      refine zip_begins2 (begins_list a its.toArray) (begins_tuple b its2.toArray) p1.isList (show s1.heap.IsTuple b its2.toArray from p2) fun h' hz' hTI hTO h1 h2 hsz hk => ?_
      refine PyProof.Rows.spliced_none ?_
      have I2 : Inv X pins σ H1 { s1 with heap := h' } := I1.kept (t' := s1.toks) hk
      have l1 : its.toArray.size = ks.length := by rw [List.size_toArray, ← rv.length, List.length_map]
      have l2 : its2.toArray.size = ys.length := by rw [List.size_toArray, ← rv2.length]
      rw [List.length_map] at hz
      have hkey : ∀ (i : Nat) (u : Value), its.toArray[i]? = some u → ∃ k, ks[i]? = some k ∧ (mixKind X.prog X.w).is k u = true := fun i u e => by
        have e : its[i]? = some u := by simpa using e
        have hi : i < ks.length := by
          have := (List.getElem?_eq_some_iff.mp e).1
          rw [← rv.length, List.length_map] at this
          exact this
        refine ⟨ks[i], List.getElem?_eq_getElem hi, ?_⟩
        obtain ⟨u', e', r'⟩ := rv.get (i := i) (x := kV ks[i]) (by rw [List.getElem?_map, List.getElem?_eq_getElem hi]; rfl)
        rw [e] at e'
        cases e'
        exact kV_is r'
      refine PySem.call_dict_pairs (knd := mixKind X.prog X.w) (kvs := ks.zip its2) (DZ.arg (zip_sep2 (fp1 := [a]) (fp2 := [b]) (by simpa using la) (by simpa using lb)) (Nat.ne_of_lt la) (Nat.ne_of_lt (Nat.lt_succ_of_lt lb)) (by rw [l1, l2, hl])) (I2.ok.hd hcalm)
        ⟨hz', hTI, ⟨_, _, hTO⟩, ⟨⟨_, h1, rfl, rfl⟩, p1.isList.at fun o e => hk _ o e⟩, ⟨⟨_, h2, rfl, rfl⟩, (show s1.heap.IsTuple b its2.toArray from p2).at fun o e => hk _ o e⟩⟩ ⟨?_, fun i u v ⟨e1, e2⟩ => ?_⟩ (by rw [l1]; exact hz) fun h'' tk hd' k => ?_
      · rw [List.length_zip, l1, hl]
        have : its2.length = ys.length := rv2.length.symm
        omega
      · obtain ⟨k, ek, hk'⟩ := hkey i u e1
        have e2 : its2[i]? = some v := by simpa using e2
        exact ⟨k, (List.getElem?_zip_eq_some (z := (k, v))).mpr ⟨ek, e2⟩, hk'⟩
      · have hm : (h'.objs.size == sysModules) = false := beq_eq_false_iff_ne.mpr (Nat.ne_of_gt I2.big)
        have hlen : (mergeK [] (ks.zip ys)).length ≤ sizeLine := by
          refine Nat.le_trans (length_mergeK _ []) ?_
          rw [List.length_nil, Nat.zero_add, List.length_zip]
          omega
        have kk : ∀ c o, s1.heap.get? c = some o → h''.get? c = some o := fun c o e => by
          have lc : c < s1.heap.objs.size := Heap.lt_size e
          refine k c o (fun z => ?_) (hk c o e)
          simp only [List.mem_cons, List.not_mem_nil, or_false] at z
          rcases z with z | z | z | z
          · exact absurd (z ▸ lc) (Nat.not_lt.mpr (Nat.le_add_right _ _))
          · exact absurd (z ▸ lc) (Nat.not_lt.mpr (Nat.le_add_right _ _))
          · exact absurd (z ▸ lc) (Nat.lt_irrefl _)
          · exact absurd (z ▸ lc) (Nat.not_lt.mpr (Nat.le_add_right _ _))
        have ps : s1.heap.objs.size ≤ h'.objs.size := by omega
        exact ⟨.ref h'.objs.size, upd H1 h'.objs.size (.dK (mergeK [] (ks.zip ys))), I1.laid (t' := tk) kk ps (show ObjOk X.prog X.w _ _ _ (.dK (mergeK [] (ks.zip ys))) from ⟨hlen, hm, merged [] (ks.zip its2), KV.merge (zip_rel rv rv2) .nil, hd'⟩), rfl, q _ (I1.hok.fresh ps)⟩
end L2
namespace L2
open PySem PySem.Spec PyProof.Rows
/-- the same flat value, or the same object -/
def DSelf : Eqv := fun x y H => DFlat x y H ∨ ∃ a, x = .ref a ∧ y = .ref a
theorem eqG_ref {X : Cx} : EqG X 0 (fun x y _ => ∃ a, x = .ref a ∧ y = .ref a) := by
  intro A pins s σ H x y u v sb I rx ry d
  obtain ⟨a, rfl, rfl⟩ := d
  cases rx
  cases ry
  exact SeqAt.EqAt.same (A := A) (s := s) (.ref a) X.prog X.w X.xe _ ⟨rfl, H, I, Ext.rfl'⟩
theorem eqG_self {X : Cx} : EqG X 0 DSelf := eqG_flat.or eqG_ref
theorem mon_self : Mon DSelf := fun x y H H' _ d => d
/-- flat, or an object -/
def Bare (x : V) : Prop := (flatV x = true ∧ eqV x x = true) ∨ ∃ a, x = .ref a
theorem prs_self {xs : List V} {H : Hp} (h : ∀ x ∈ xs, Bare x) : Prs DSelf xs xs H := ⟨rfl, fun i x y e1 e2 => by
  rw [e1] at e2
  obtain rfl := Option.some.inj e2
  rcases h x (List.mem_of_getElem? e1) with ⟨z1, z2⟩ | z
  · exact .inl ⟨z1, z1, z2⟩
  · obtain ⟨a, rfl⟩ := z
    exact .inr ⟨a, rfl, rfl⟩⟩
/-- what a value is that is compared with itself -/
inductive SelfV (H : Hp) : V → Prop
  | flat {x : V} : flatV x = true → eqV x x = true → SelfV H x
  | tup {p : Addr} {xs : List V} : H p = some (.tup xs) → (∀ x ∈ xs, Bare x) → SelfV H (.ref p)
  | lst {p : Addr} {xs : List V} : H p = some (.lst xs) → (∀ x ∈ xs, Bare x) → SelfV H (.ref p)
  | dct {p : Addr} {kvs : List (Key × V)} : H p = some (.dK kvs) → (∀ q ∈ kvs, valV kvs q.1 = some q.2 ∧ Bare q.2) → SelfV H (.ref p)
def rSelf (C : Addr) (R : Addr → Addr → Hp → Prop) : R2 := fun x y H Q => x = y ∧ (SelfV H x ∨ DIns C R x x H) ∧ ∀ H', Ext H H' → Q (.bl true) H'
theorem bare_eq {K : PySem.W.Frag} {H : Hp} {x : V} (h : Bare x) : EqV K H 1 x x := by
  rcases h with ⟨z1, z2⟩ | z
  · refine .inl ⟨rfl, ?_⟩
    cases x <;> first | rfl | cases z1
  · obtain ⟨a, rfl⟩ := z
    exact .inr (.inl ⟨a, rfl, rfl⟩)
theorem op_self {X : Cx} {CX : CXT} {C f : Addr} {fd : FuncData} {ps : List Str} {n : Nat} {R : Addr → Addr → Hp → Prop} {E : XK} (F : FnOk X.prog X.w X.K X.mg X.base CX n f fd ps (spEq R))
    (hs : PySem.W.findIn X.K (.ref C) "__eq__" = some (some (.ref f))) (hf : PySem.W.isFn X.K (.ref f) = true) (hb : Binds X.K fd ps []) (hx : Passes CX X E) (hr : Room n X.A) (hr1 : Room 1 X.A) (hu : X.A.units + 64 < cLine) : OpR X (compareOp .Eq) (rSelf C R) := by
  intro pins s σ H x y v u Q I rx ry hq
  obtain ⟨rfl, h, q⟩ := hq
  rcases h with h | h
  · cases h with
    | flat z1 z2 =>
      have q0 := q H Ext.rfl'
      show wpAny (model X.prog X.w) X.A (richCompare .Eq v u) (EP X pins σ Q) X.xe s
      refine op_eq pins s σ H x x v u Q I rx ry ⟨?_, ?_⟩
      · cases x <;> first | rfl | cases z1
      · rw [decide_eq_true rfl]
        exact q0
    | tup h1 h2 => exact op_eqG (rcG_tup mon_self eqG_self) hr1 pins s σ H _ _ v u Q I rx ry ⟨⟨_, _, _, _, rfl, rfl, SqT.of h1, SqT.of h1, prs_self h2⟩, q⟩
    | lst h1 h2 => exact op_eqG (rcG_list mon_self eqG_self) hr1 pins s σ H _ _ v u Q I rx ry ⟨⟨_, _, _, _, rfl, rfl, h1, h1, prs_self h2⟩, q⟩
    | dct h1 h2 => exact op_eqV hu pins s σ H _ _ v u Q I rx ry ⟨1, by decide, .inr ⟨_, _, _, _, rfl, rfl, h1, h1, rfl, fun p hp => ⟨_, (h2 p hp).1, bare_eq (h2 p hp).2⟩⟩, q H Ext.rfl'⟩
  · exact op_eqG (rcG_ins F hs hf hb hx) hr pins s σ H x x v u Q I rx ry ⟨h, q⟩
end L2
namespace Oh
open PySem PySem.Spec PyProof.Rows L2 PpSet
mutual
def pd : DT → PyData
  | .non => .none
  | .bl b => .bool b
  | .int i => .int i
  | .str s => .str s
  | .tup l => .tuple (pdA l)
  | .oth => .none
def pdA : List DT → List PyData
  | [] => []
  | d :: r => pd d :: pdA r
end
mutual
/-- of depth n, no other kinds, texts of letters -/
def eqB : Nat → DT → Bool
  | _, .non => true
  | _, .bl _ => true
  | _, .int _ => true
  | _, .str s => PyData.strOk s
  | 0, .tup _ => false
  | n + 1, .tup l => eqA n l
  | _, .oth => false
def eqA : Nat → List DT → Bool
  | _, [] => true
  | n, d :: r => eqB n d && eqA n r
end
mutual
theorem Rp.dp {K : PySem.W.Frag} {H : Hp} : ∀ {v : V} {d : DT} {n : Nat}, Rp K H v d → eqB n d = true → Dp K H v (pd d) ∧ PyData.canLay0 (pd d) = true ∧ PyData.depth (pd d) ≤ n
  | _, _, _, .non, _ => ⟨.non, rfl, Nat.zero_le _⟩
  | _, _, _, .bl b, _ => ⟨.bl b, rfl, Nat.zero_le _⟩
  | _, _, _, .int i, _ => ⟨.int i, rfl, Nat.zero_le _⟩
  | _, _, n, .str (s := s) _, h => ⟨.str s, by cases n <;> exact h, Nat.zero_le _⟩
  | _, _, 0, .tup _ _, h => by cases h
  | _, _, n + 1, .tup (l := l) e r, h => by
    obtain ⟨h1, h2, h3⟩ := RpAll.dp r (show eqA n l = true from h)
    exact ⟨.tup (SqT.of e) h1, h2, by show PyData.depthAll (pdA l) + 1 ≤ n + 1; omega⟩
  | _, _, n, .lst _, h => by cases n <;> cases h
  | _, _, n, .dct _, h => by cases n <;> cases h
  | _, _, n, .ins _ _, h => by cases n <;> cases h
theorem RpAll.dp {K : PySem.W.Frag} {H : Hp} : ∀ {vs : List V} {l : List DT} {n : Nat}, RpAll K H vs l → eqA n l = true → DpAll K H vs (pdA l) ∧ PyData.canLayAll0 (pdA l) = true ∧ PyData.depthAll (pdA l) ≤ n
  | _, _, _, .nil, _ => ⟨.nil, rfl, Nat.zero_le _⟩
  | _, _, n, .cons (d := d) (ds := ds) h1 h2, h => by
    have h : (eqB n d && eqA n ds) = true := h
    obtain ⟨a, b⟩ := Bool.and_eq_true_iff.mp h
    obtain ⟨a1, a2, a3⟩ := Rp.dp h1 a
    obtain ⟨b1, b2, b3⟩ := RpAll.dp h2 b
    refine ⟨.cons a1 b1, ?_, ?_⟩
    · show (PyData.canLay0 (pd d) && PyData.canLayAll0 (pdA ds)) = true
      rw [a2, b2]; rfl
    · show max (PyData.depth (pd d)) (PyData.depthAll (pdA ds)) ≤ n
      omega
end
theorem shaped_pd {d : PyData} {n : Nat} (h1 : PyData.canLay0 d = true) (h2 : PyData.depth d ≤ n) (hn : n ≤ 64) : SeqAt.shaped d = true := by
  unfold SeqAt.shaped
  rw [h1, Bool.true_and]
  exact decide_eq_true (by omega)
def isStrB (d : DT) (t : Str) : Bool := match d with
  | .str s => s == t
  | _ => false
def isOneB (l : List DT) (t : Str) : Bool := match l with
  | [d] => isStrB d t
  | _ => false
theorem eqv_str {d : DT} {t : Str} {n : Nat} (h : eqB n d = true) : PyData.eqv (pd d) (.str t) = isStrB d t := by
  cases d with
  | oth => cases n <;> cases h
  | _ => first | (show PyData.eqv (.tuple _) (.str t) = false; simp only [PyData.eqv]) | (simp only [pd, PyData.eqv, isStrB])
/-- == with a text -/
theorem eq_str {K : PySem.W.Frag} {H : Hp} {v : V} {d : DT} {n : Nat} {t : Str} {Q : VK} (r : Rp K H v d) (h : eqB n d = true) (hn : n ≤ 64) (ht : PyData.strOk t = true) (k : Q (.bl (isStrB d t)) H) : rEqD K v (.str t) H Q := by
  obtain ⟨h1, h2, h3⟩ := r.dp h
  refine ⟨_, _, h1, .str t, shaped_pd h2 h3 hn, shaped_pd (n := 0) ht (Nat.le_refl _) (by decide), ?_⟩
  rw [eqv_str h]
  exact k
theorem eqv_one {l : List DT} {t : Str} {n : Nat} (h : eqA n l = true) : PyData.eqvAll (pdA l) [.str t] = isOneB l t := by
  match l, h with
  | [], _ => simp only [pdA, PyData.eqvAll, isOneB]
  | [d], h =>
    have hd : eqB n d = true := (Bool.and_eq_true_iff.mp (show (eqB n d && eqA n []) = true from h)).1
    simp only [pdA, PyData.eqvAll, isOneB, eqv_str hd, Bool.and_true]
  | d :: e :: r, _ => simp only [pdA, PyData.eqvAll, isOneB, Bool.and_false]
theorem rp_bare {K : PySem.W.Frag} {H : Hp} {v : V} {d : DT} (r : Rp K H v d) : Bare v := by
  cases r with
  | non => exact .inl ⟨rfl, rfl⟩
  | bl b => exact .inl ⟨rfl, by show (b == b) = true; simp⟩
  | int i => exact .inl ⟨rfl, by show (i == i) = true; simp⟩
  | str _ => exact .inl ⟨rfl, by show (_ == _) = true; simp⟩
  | tup _ _ => exact .inr ⟨_, rfl⟩
  | lst _ => exact .inr ⟨_, rfl⟩
  | dct _ => exact .inr ⟨_, rfl⟩
  | ins _ _ => exact .inr ⟨_, rfl⟩
theorem rpAll_bare {K : PySem.W.Frag} {H : Hp} : ∀ {vs : List V} {l : List DT}, RpAll K H vs l → ∀ x ∈ vs, Bare x
  | _, _, .nil, x, h => absurd h List.not_mem_nil
  | _, _, .cons a b, x, h => by
    rcases List.mem_cons.mp h with rfl | h
    · exact rp_bare a
    · exact rpAll_bare b x h
end Oh
/-! tuple * int, any number of times. -/
namespace L2
open PySem PySem.Spec PyProof.Rows
theorem tuple_mul1 (l : Addr) (items : Array Value) (n : Nat) (dd : Option Addr) (sl : Array (Option Value)) (x : Int) (u : Tok) (c0 : (decide (x < -(2 ^ 63)) || decide (x ≥ 2 ^ 63)) = false) (c1 : (items.isEmpty || x == 1) = true) :
    Meets (Builtin.«tuple.__mul__» ⟨[.ref l, .int x u], []⟩) (fun _ R s => s.heap.get? l = some { cls := .type "tuple", dict := dd, data := .seq items n, slots := sl } ∧
      R (.ok (.ret (Value.ref l))) s) :=
  .of_wp fun prog w A R s h => by
    obtain ⟨hp, g, d, tk, os⟩ := s
    obtain ⟨hl, h⟩ := h
    have f1 := AutoSeq1.idx_int
    wp_walk using wpAny_loadPart' hl
    repeat (first
      | (refine wpAny_ite_false (decide_eq_false (by rw [c0]; exact Bool.false_ne_true)) ?_; wp_walk using wpAny_loadPart' hl)
      | (refine wpAny_ite_true (decide_eq_true c1) ?_; wp_walk using wpAny_loadPart' hl))
    exact ⟨_, rfl, h⟩
theorem tuple_mul0 (l : Addr) (items : Array Value) (n : Nat) (dd : Option Addr) (sl : Array (Option Value)) (x : Int) (u : Tok) (c0 : (decide (x < -(2 ^ 63)) || decide (x ≥ 2 ^ 63)) = false) (c1 : (items.isEmpty || x == 1) = false) (c2 : (decide (x ≤ 0) || items.isEmpty) = true) :
    Meets (Builtin.«tuple.__mul__» ⟨[.ref l, .int x u], []⟩) (fun _ R s => s.heap.get? l = some { cls := .type "tuple", dict := dd, data := .seq items n, slots := sl } ∧
      R (.ok (.ret (Value.ref s.heap.objs.size))) { s with heap := s.heap.push { cls := Value.type "tuple", data := Data.seq #[] }, toks := s.toks }) :=
  .of_wp fun prog w A R s h => by
    obtain ⟨hp, g, d, tk, os⟩ := s
    obtain ⟨hl, h⟩ := h
    have f1 := AutoSeq1.idx_int
    wp_walk using wpAny_loadPart' hl
    repeat (first
      | (refine wpAny_ite_false (decide_eq_false (by rw [c0]; exact Bool.false_ne_true)) ?_; wp_walk using wpAny_loadPart' hl)
      | (refine wpAny_ite_false (decide_eq_false (by rw [c1]; exact Bool.false_ne_true)) ?_; wp_walk using wpAny_loadPart' hl)
      | (refine wpAny_ite_true (decide_eq_true c2) ?_; wp_walk using wpAny_loadPart' hl))
    exact ⟨_, rfl, h⟩
/-- t * k: the tuple itself, an empty one, or a new one -/
def rRepA (K : PySem.W.Frag) : R2 := fun x y H Q => ∃ l k xs, x = .ref l ∧ y = .int k ∧ SqT K H l xs ∧ 0 ≤ k ∧ k ≤ 1000 ∧ xs.length ≤ 1000 ∧ (xs = [] ∨ k = 1 → Q (.ref l) H) ∧ (xs ≠ [] → k ≠ 1 → ∀ p, H p = none → Q (.ref p) (upd H p (.tup (List.replicate k.toNat xs).flatten)))
section
variable {X : Cx}
theorem op_repA : OpR X (binaryOp .Mult) (rRepA X.K) := by
  intro pins s σ H x y v u Q I rx ry h
  obtain ⟨l, k, xs, rfl, rfl, hT, h0, h1, hz, q1, q2⟩ := h
  by_cases hne : xs ≠ [] ∧ 2 ≤ k
  · exact op_repT pins s σ H _ _ v u Q I rx ry ⟨l, k, xs, rfl, rfl, hT, hne.1, hne.2, h1, hz, q2 hne.1 (by omega)⟩
  cases rx
  obtain ⟨t, rfl⟩ := ry
  obtain ⟨its, r, ⟨⟨cls, dd, data, sl⟩, ho, hc, n, hd⟩, hs⟩ := I.tuple hT
  simp only at hc hd
  subst hc hd
  have hle : its.length = xs.length := r.length.symm
  have c0 : (decide (k < -(2 ^ 63)) || decide (k ≥ 2 ^ 63)) = false := by
    rw [decide_eq_false (by omega), decide_eq_false (by omega)] <;> rfl
  by_cases c : xs = [] ∨ k = 1
  · have c1 : (its.toArray.isEmpty || k == 1) = true := by
      rcases c with c | c
      · have : its = [] := List.eq_nil_of_length_eq_zero (by rw [hle, c]; rfl)
        subst this
        rfl
      · rw [c]
        simp
    refine wpAny_binaryOp_repeat_ref (T := "tuple") (U := "int") (by decide) ⟨_, ho, rfl⟩ (fun s' => typeIs_int s' k t) noFill_tuple_mul F.fills_int_mul F.slot_int_rmul repeat_tuple F.slot_int_index.lookup
      (call_meets F.slot_int_rmul (typeIs_int s k t) F.entry_int_rmul (F.args_int_rmul_2 _ _) (int_rmul_tuple k t l its.toArray n dd sl)
        ⟨ho, rfl, ⟨_, ho, rfl⟩, call_meets F.slot_tuple_mul ⟨_, ho, rfl⟩ F.entry_tuple_mul (F.args_tuple_mul_2 _ _) (tuple_mul1 l its.toArray n dd sl k t c0 c1) ⟨ho, ?_⟩⟩)
    exact ⟨.ref l, H, I, rfl, q1 c⟩
  · have hne2 : xs ≠ [] := fun z => c (.inl z)
    have hk1 : k ≠ 1 := fun z => c (.inr z)
    have hk0 : k = 0 := by
      have : ¬ 2 ≤ k := fun z => hne ⟨hne2, z⟩
      omega
    have hn : its ≠ [] := fun e => hne2 (by
      rw [e] at hle
      exact List.eq_nil_of_length_eq_zero hle.symm)
    have hi : its.toArray.isEmpty = false := by
      cases its with
      | nil => exact absurd rfl hn
      | cons a b => rfl
    have c1 : (its.toArray.isEmpty || k == 1) = false := by
      rw [hi, Bool.false_or]
      exact beq_eq_false_iff_ne.mpr hk1
    have c2 : (decide (k ≤ 0) || its.toArray.isEmpty) = true := by
      rw [decide_eq_true (show k ≤ 0 by omega)]
      rfl
    refine wpAny_binaryOp_repeat_ref (T := "tuple") (U := "int") (by decide) ⟨_, ho, rfl⟩ (fun s' => typeIs_int s' k t) noFill_tuple_mul F.fills_int_mul F.slot_int_rmul repeat_tuple F.slot_int_index.lookup
      (call_meets F.slot_int_rmul (typeIs_int s k t) F.entry_int_rmul (F.args_int_rmul_2 _ _) (int_rmul_tuple k t l its.toArray n dd sl)
        ⟨ho, rfl, ⟨_, ho, rfl⟩, call_meets F.slot_tuple_mul ⟨_, ho, rfl⟩ F.entry_tuple_mul (F.args_tuple_mul_2 _ _) (tuple_mul0 l its.toArray n dd sl k t c0 c1 c2) ⟨ho, ?_⟩⟩)
    have q3 := q2 hne2 hk1 _ (I.hok.fresh (Nat.le_refl _))
    rw [hk0] at q3
    exact ⟨.ref s.heap.objs.size, _, I.laid (t' := s.toks) (o := .tup []) (fun b ob q => Heap.get?_push_of_some _ q) (Nat.le_refl _) ⟨by decide, [], .nil, IsTup.new _ _⟩, rfl, q3⟩
end
end L2
namespace Oh
open PySem PySem.Spec PyProof.Rows L2 PpSet
/-! ### draws between -/
structure Drw (a c : Addr) (H H' : Hp) : Prop where
  k : Keep a c H H'
  s : Src H' a c
theorem Drw.trans {a c : Addr} {H H1 H2 : Hp} (x : Drw a c H H1) (y : Drw a c H1 H2) : Drw a c H H2 := ⟨x.k.trans y.k, y.s⟩
theorem Src.same {a c : Addr} {H H' : Hp} (s : Same H H') (S : Src H a c) : Src H' a c := by
  obtain ⟨n, ns, i, sm, k, x1, x2, x3⟩ := S
  exact ⟨n, ns, i, sm, k, s _ _ x1, s _ _ x2, x3⟩
theorem Drw.of_same {a c : Addr} {H H' : Hp} (S : Src H a c) (s : Same H H') : Drw a c H H' := ⟨Keep.of_same s, S.same s⟩
theorem Drw.refl {a c : Addr} {H : Hp} (S : Src H a c) : Drw a c H H := ⟨Keep.refl _ _ _, S⟩
theorem Drw.at {a c : Addr} {H H' : Hp} (S : Src H a c) (x : Drw a c H H') {p : Addr} {o : HO} (e : H p = some o) (ne : ∀ xs, o ≠ .lst xs) : H' p = some o := by
  obtain ⟨_, ns, i, sm, k, x1, x2, _⟩ := S
  refine x.k p o e (fun z => ?_) (fun z => ?_)
  · subst z
    exact ne _ (Option.some.inj (e.symm.trans x1))
  · subst z
    exact ne _ (Option.some.inj (e.symm.trans x2))
mutual
theorem Rp.drw {K : PySem.W.Frag} {H H' : Hp} {a c : Addr} (S : Src H a c) (x : Drw a c H H') : ∀ {v : V} {d : DT}, Rp K H v d → Rp K H' v d
  | _, _, .non => .non
  | _, _, .bl b => .bl b
  | _, _, .int i => .int i
  | _, _, .str z => .str z
  | _, _, .tup e r => .tup (x.at S e (fun _ => nofun)) (RpAll.drw S x r)
  | _, _, .lst (p := p) (xs := xs) e => by
    obtain ⟨_, ns, i, sm, k, x1, x2, _⟩ := x.s
    by_cases h1 : p = a
    · subst h1
      exact .lst x1
    · by_cases h2 : p = c
      · subst h2
        exact .lst x2
      · exact .lst (x.k p _ e h1 h2)
  | _, _, .dct e => .dct (x.at S e (fun _ => nofun))
  | _, _, .ins e c => .ins (x.at S e (fun _ => nofun)) c
theorem RpAll.drw {K : PySem.W.Frag} {H H' : Hp} {a c : Addr} (S : Src H a c) (x : Drw a c H H') : ∀ {vs : List V} {ds : List DT}, RpAll K H vs ds → RpAll K H' vs ds
  | _, _, .nil => .nil
  | _, _, .cons h t => .cons (Rp.drw S x h) (RpAll.drw S x t)
end
theorem RpAll.append {K : PySem.W.Frag} {H : Hp} : ∀ {vs ws : List V} {ds es : List DT}, RpAll K H vs ds → RpAll K H ws es → RpAll K H (vs ++ ws) (ds ++ es)
  | _, _, _, _, .nil, h => h
  | _, _, _, _, .cons h t, z => .cons h (t.append z)
theorem RpAll.rep {K : PySem.W.Frag} {H : Hp} {vs : List V} {ds : List DT} (h : RpAll K H vs ds) : ∀ n, RpAll K H (List.replicate n vs).flatten (List.replicate n ds).flatten
  | 0 => .nil
  | n + 1 => by
    rw [List.replicate_succ, List.replicate_succ, List.flatten_cons, List.flatten_cons]
    exact h.append (h.rep n)
theorem RpAll.tail {K : PySem.W.Frag} {H : Hp} {v : V} {vs : List V} {d : DT} {ds : List DT} (h : RpAll K H (v :: vs) (d :: ds)) : RpAll K H vs ds := by
  cases h with
  | cons _ t => exact t
theorem RpAll.take {K : PySem.W.Frag} {H : Hp} : ∀ {vs : List V} {ds : List DT} (n : Nat), RpAll K H vs ds → RpAll K H (vs.take n) (ds.take n)
  | _, _, 0, _ => .nil
  | _, _, _ + 1, .nil => .nil
  | _, _, n + 1, .cons h t => .cons h (t.take n)
theorem RpAll.drop {K : PySem.W.Frag} {H : Hp} : ∀ {vs : List V} {ds : List DT} (n : Nat), RpAll K H vs ds → RpAll K H (vs.drop n) (ds.drop n)
  | _, _, 0, h => h
  | _, _, _ + 1, .nil => .nil
  | _, _, n + 1, .cons _ t => t.drop n
/-! ### displays -/
def Ev (K : PySem.W.Frag) (te : TE) (σ : L2.St) (H : Hp) (d : DT) : Prop := ∀ H1, Same H H1 → ∀ Q : VK, (∀ v H', Same H1 H' → Rp K H' v d → Q v H') → te σ H1 Q
def EvA (K : PySem.W.Frag) (ta : TA) (σ : L2.St) (H : Hp) (ds : List DT) : Prop := ∀ H1, Same H H1 → ∀ Q : List V → Hp → Prop, (∀ vs H', Same H1 H' → RpAll K H' vs ds → Q vs H') → ta σ H1 Q
section
variable {K : PySem.W.Frag} {σ : L2.St} {H : Hp}
theorem Ev.go {te : TE} {d : DT} {Q : VK} (e : Ev K te σ H d) (k : ∀ v H', Same H H' → Rp K H' v d → Q v H') : te σ H Q := e H (Same.refl H) Q k
theorem ev_var {i : Nat} {v : V} {d : DT} (r : Rp K H v d) (e : σ[i]? = some (some v)) : Ev K (tVar i) σ H d := fun H1 s Q k => ⟨v, e, k v H1 (Same.refl _) (r.keep s)⟩
theorem ev_str {s : Str} (h : s.length ≤ 1000 := by decide +kernel) : Ev K (tC (.str s)) σ H (.str s) := fun H1 _ Q k => k _ H1 (Same.refl _) (.str h)
theorem ev_int {i : Int} : Ev K (tC (.int i)) σ H (.int i) := fun H1 _ Q k => k _ H1 (Same.refl _) (.int i)
theorem eva_nil : EvA K tNil σ H [] := fun H1 _ Q k => k [] H1 (Same.refl _) .nil
theorem eva_cons {te : TE} {ta : TA} {d : DT} {ds : List DT} (h : Ev K te σ H d) (t : EvA K ta σ H ds) : EvA K (tCons te ta) σ H (d :: ds) := fun H1 s Q k =>
  h H1 s _ fun v H2 s2 r => t H2 (s.trans s2) _ fun vs H3 s3 rs => k (v :: vs) H3 (s2.trans s3) (.cons (r.keep s3) rs)
theorem ev_tup {ta : TA} {ds : List DT} (h : EvA K ta σ H ds) (hl : ds.length ≤ 1000 := by exact Nat.le_of_ble_eq_true rfl) : Ev K (tTup ta) σ H (.tup ds) := fun H1 s Q k =>
  h H1 s _ fun vs H2 s2 rs => ⟨by rw [rs.len]; exact small9 hl, fun p np => k _ _ (s2.trans (Same.new np)) (.tup upd_same (rs.keep (Same.new np)))⟩
theorem ev_cat {t1 t2 : TE} {l1 l2 : List DT} (h1 : Ev K t1 σ H (.tup l1)) (h2 : Ev K t2 σ H (.tup l2)) (hl : l1.length + l2.length ≤ 1000) : Ev K (tOp (rCatA K) t1 t2) σ H (.tup (l1 ++ l2)) := fun H1 s Q k =>
  h1 H1 s _ fun v1 H2 s2 r1 => h2 H2 (s.trans s2) _ fun v2 H3 s3 r2 => by
    obtain ⟨p, xs, rfl, hp, ra⟩ := (r1.keep s3).tup_inv
    obtain ⟨q, ys, rfl, hq, rb⟩ := r2.tup_inv
    have la := ra.len
    have lb := rb.len
    refine ⟨p, q, xs, ys, rfl, rfl, SqT.of hp, SqT.of hq, small9 (by omega), fun z => ?_, fun _ z => ?_, fun _ _ r nr => ?_⟩
    · subst z
      have : l1 = [] := List.eq_nil_of_length_eq_zero la.symm
      subst this
      exact k _ H3 (s2.trans s3) (.tup hq rb)
    · subst z
      have : l2 = [] := List.eq_nil_of_length_eq_zero lb.symm
      subst this
      rw [List.append_nil] at k
      exact k _ H3 (s2.trans s3) (.tup hp ra)
    · exact k _ _ (s2.trans (s3.trans (Same.new nr))) (.tup upd_same ((ra.append rb).keep (Same.new nr)))
theorem ev_rep {t1 t2 : TE} {l : List DT} {n : Nat} (h1 : Ev K t1 σ H (.tup l)) (h2 : Ev K t2 σ H (.int n)) (hl : l.length ≤ 1000) (hn : n ≤ 1000) : Ev K (tOp (rRepA K) t1 t2) σ H (.tup (List.replicate n l).flatten) := fun H1 s Q k =>
  h1 H1 s _ fun v1 H2 s2 r1 => h2 H2 (s.trans s2) _ fun v2 H3 s3 r2 => by
    obtain ⟨p, xs, rfl, hp, ra⟩ := (r1.keep s3).tup_inv
    cases r2
    have la := ra.len
    refine ⟨p, _, xs, rfl, rfl, SqT.of hp, by omega, by omega, by omega, fun z => ?_, fun _ _ r nr => ?_⟩
    · have e : (List.replicate n l).flatten = l := by
        rcases z with z | z
        · subst z
          have : l = [] := List.eq_nil_of_length_eq_zero la.symm
          subst this
          rw [List.flatten_replicate_nil]
        · have : n = 1 := by omega
          subst this
          simp
      rw [e] at k
      exact k _ H3 (s2.trans s3) (.tup hp ra)
    · exact k _ _ (s2.trans (s3.trans (Same.new nr))) (.tup upd_same ((ra.rep n).keep (Same.new nr)))
theorem ev_tail {t1 : TE} {d : DT} {l : List DT} (h1 : Ev K t1 σ H (.tup (d :: l))) : Ev K (tSl (rSlA K) t1 (tPart (tC (.int 1))) tNoPart) σ H (.tup l) := fun H1 s Q k =>
  h1 H1 s _ fun v1 H2 s2 r1 => by
    obtain ⟨p, xs, rfl, hp, ra⟩ := r1.tup_inv
    obtain ⟨vh, vs, rfl, ra'⟩ : ∃ vh vs, xs = vh :: vs ∧ RpAll K H2 vs l := by
      cases ra with
      | cons _ t => exact ⟨_, _, rfl, t⟩
    refine ⟨1, rfl, p, _, rfl, SqT.of hp, fun z => absurd z (cut1_no _ _), fun _ q nq => ?_⟩
    rw [cut1]
    exact k _ _ (s2.trans (Same.new nq)) (.tup upd_same (ra'.keep (Same.new nq)))
theorem ev_take {t1 : TE} {n : Nat} {l : List DT} (h1 : Ev K t1 σ H (.tup l)) : Ev K (tSl (rSlA K) t1 tNoPart (tPart (tC (.int (n : Int))))) σ H (.tup (l.take n)) := fun H1 s Q k =>
  h1 H1 s _ fun v1 H2 s2 r1 => by
    obtain ⟨p, xs, rfl, hp, ra⟩ := r1.tup_inv
    have la := ra.len
    have e1 : HT.sIx xs.length xs.length (some (n : Int)) = min n xs.length := HT.sIx_nat _ _ _
    refine ⟨_, rfl, p, _, rfl, SqT.of hp, fun z => ?_, fun _ q nq => ?_⟩
    · have : l.take n = l := List.take_of_length_le (by
        have z2 := z.2
        rw [e1] at z2
        omega)
      rw [this] at k
      exact k _ _ s2 (.tup hp ra)
    · have e2 : cutV xs none (some (n : Int)) = xs.take n := by
        unfold cutV
        rw [e1, HT.sIx_none, List.drop_zero, Nat.sub_zero]
        by_cases c : n ≤ xs.length
        · rw [Nat.min_eq_left c]
        · rw [Nat.min_eq_right (by omega), List.take_length, List.take_of_length_le (by omega)]
      rw [e2]
      exact k _ _ (s2.trans (Same.new nq)) (.tup upd_same ((ra.take n).keep (Same.new nq)))
end
end Oh
namespace Oh
open PySem PySem.Spec PyProof.Rows L2 PpSet
/-! ### blocks with items that are no statements: m levels at most, where statements lead on -/
def depW : Nat → DT → Prop
  | 0 => fun _ => False
  | m + 1 => fun b => ∀ d ∈ listB b, stmtB d = true → ∀ c ∈ blocksB d, depW m c
theorem dep_up : ∀ {m k : Nat} {b : DT}, m ≤ k → depW m b → depW k b
  | 0, _, _, _, h => h.elim
  | m + 1, 0, _, h, _ => absurd h (by omega)
  | m + 1, k + 1, b, hm, h => fun d hd hs c hc => dep_up (by omega) (h d hd hs c hc)
/-- the quiet ways, whatever the depth is -/
def quietO (rec : DT → Bool × Bool) (d : DT) : Bool × Bool :=
  if stmtB d = false then (false, false) else if headB d = "set" then (true, false) else if headB d = "leave" then (false, true) else if headB d = "repeat" then ((rec (argB d 1)).2, false)
  else if headB d = "if" ∨ headB d = "open" then ((((blocksB d).map rec).map (·.1)).any id, (((blocksB d).map rec).map (·.2)).any id) else (false, false)
def quietW : Nat → DT → Bool × Bool
  | 0 => fun _ => (false, false)
  | m + 1 => fun b => quietL (quietO (quietW m)) (listB b) false
theorem quietL_congr {g k : DT → Bool × Bool} : ∀ (l : List DT) (lv : Bool), (∀ d ∈ l, g d = k d) → quietL g l lv = quietL k l lv
  | [], _, _ => rfl
  | d :: r, lv, h => by
    unfold quietL
    rw [h d List.mem_cons_self]
    rw [quietL_congr r (lv || (k d).2) fun x hx => h x (List.mem_cons_of_mem _ hx)]
theorem blocks_head {d : DT} (h : headB d = "repeat") : blocksB d = [argB d 1] := by
  unfold blocksB
  rw [if_neg (by rw [h]; decide), if_pos h]
theorem quietO_congr {g k : DT → Bool × Bool} {d : DT} (h : ∀ c ∈ blocksB d, g c = k c) : quietO g d = quietO k d := by
  unfold quietO
  have e2 : (blocksB d).map g = (blocksB d).map k := List.map_congr_left h
  by_cases c1 : headB d = "repeat"
  · have e := h (argB d 1) (by rw [blocks_head c1]; exact List.mem_cons_self)
    rw [e, e2]
  · rw [if_neg c1, if_neg c1, e2]
theorem quiet_up : ∀ {m k : Nat} {b : DT}, m ≤ k → depW m b → quietW k b = quietW m b
  | 0, _, _, _, h => h.elim
  | m + 1, 0, _, h, _ => absurd h (by omega)
  | m + 1, k + 1, b, hm, h => quietL_congr _ _ fun d hd => by
    cases hs : stmtB d with
    | false => unfold quietO; rw [if_pos hs, if_pos hs]
    | true => exact quietO_congr fun c hc => quiet_up (by omega) (h d hd hs c hc)
theorem sound_dep {m f : Nat} {d : DT} (hs : stmtB d = true) (h : ∀ c ∈ blocksB d, depW m c) (hm : m ≤ f) (hf : f ≤ 11) : soundB (12 - f) d = true := by
  unfold soundB
  rw [hs, Bool.true_and]
  cases f with
  | succ f => rw [decide_eq_true (by omega), Bool.true_or]
  | zero =>
    obtain rfl : m = 0 := by omega
    have e : blocksB d = [] := by
      cases e : blocksB d with
      | nil => rfl
      | cons c r => exact (h c (by rw [e]; exact List.mem_cons_self)).elim
    rw [e]
    rfl
theorem sound_not {n : Nat} {d : DT} (hs : stmtB d = false) : soundB n d = false := by
  unfold soundB
  rw [hs, Bool.false_and]
theorem quiet_eq : ∀ {m f : Nat} {b : DT}, m ≤ f → f ≤ 12 → depW m b → quietR f b = quietW m b
  | 0, _, _, _, _, h => h.elim
  | m + 1, 0, _, h, _, _ => absurd h (by omega)
  | m + 1, f + 1, b, hm, hf, h => by
    show quietL (quietOf (quietR f) (12 - f)) (listB b) false = quietL (quietO (quietW m)) (listB b) false
    refine quietL_congr _ _ fun d hd => ?_
    cases hs : stmtB d with
    | false => unfold quietOf quietO; rw [if_pos hs, if_pos (sound_not hs)]
    | true =>
      have e : quietOf (quietR f) (12 - f) d = quietO (quietR f) d := by
        unfold quietOf quietO
        rw [sound_dep hs (h d hd hs) (by omega) (by omega), hs]
      rw [e]
      exact quietO_congr fun c hc => quiet_eq (by omega) (by omega) (h d hd hs c hc)
/-! ### the rows of the walk -/
abbrev WRow := List Nat × DT × Bool
def blocksW (rec : DT → List Nat → Bool → List WRow) (here : List Nat) (lp : Bool) : List DT → Nat → List WRow
  | [], _ => []
  | c :: cs, j => rec c (here ++ [j]) lp ++ blocksW rec here lp cs (j + 1)
def inW (rec : DT → List Nat → Bool → List WRow) (here : List Nat) (lp : Bool) (d : DT) : List WRow := if stmtB d = true then blocksW rec here (lp || decide (headB d = "repeat")) (blocksB d) 0 else []
def itemsW (rec : DT → List Nat → Bool → List WRow) (path : List Nat) (lp : Bool) : List DT → Nat → List WRow
  | [], _ => []
  | d :: ds, i => (path ++ [i], d, lp) :: (inW rec (path ++ [i]) lp d ++ itemsW rec path lp ds (i + 1))
def rowsW : Nat → DT → List Nat → Bool → List WRow
  | 0 => fun _ _ _ => []
  | m + 1 => fun b path lp => itemsW (rowsW m) path lp (listB b) 0
def wrongS (lp : Bool) (d : DT) : Bool := if headB d = "leave" then !lp else decide (headB d = "repeat") && (quietW 12 (argB d 1)).1
def wrongW (r : WRow) : Bool := !stmtB r.2.1 || wrongS r.2.2 r.2.1
theorem wrong_eq {m f : Nat} {lp : Bool} {d : DT} {w : List Nat} (h : stmtB d = true → ∀ c ∈ blocksB d, depW m c) (hm : m ≤ f) (hf : f ≤ 11) : wrongB f (12 - f) lp d = wrongW (w, d, lp) := by
  show _ = (!stmtB d || wrongS lp d)
  cases hs : stmtB d with
  | false => exact (wrong_not hs).trans rfl
  | true =>
    unfold wrongB wrongS
    rw [if_neg (by rw [sound_dep hs (h hs) hm hf]; decide)]
    by_cases c : headB d = "repeat"
    · have z : depW m (argB d 1) := h hs _ (by rw [blocks_head c]; exact List.mem_cons_self)
      rw [quiet_eq hm (by omega) z, quiet_up (k := 12) (by omega) z]
      rfl
    · rw [decide_eq_false c]
      rfl
theorem first_blocks {m f : Nat} {here : List Nat} {lp : Bool} (rec : ∀ {b : DT} {path : List Nat} {lp : Bool}, depW m b → firstR f b path lp = ((rowsW m b path lp).find? wrongW).map (·.1)) : ∀ (cs : List DT) (j : Nat), (∀ c ∈ cs, depW m c) →
    goBlocks (firstR f) here lp cs j = ((blocksW (rowsW m) here lp cs j).find? wrongW).map (·.1)
  | [], _, _ => rfl
  | c :: cs, j, h => by
    unfold goBlocks blocksW
    rw [rec (h c List.mem_cons_self), List.find?_append, first_blocks rec cs (j + 1) fun x hx => h x (List.mem_cons_of_mem _ hx)]
    cases (rowsW m c (here ++ [j]) lp).find? wrongW <;> rfl
theorem first_items {m f : Nat} {path : List Nat} {lp : Bool} (hm : m ≤ f) (hf : f ≤ 11) (rec : ∀ {b : DT} {path : List Nat} {lp : Bool}, depW m b → firstR f b path lp = ((rowsW m b path lp).find? wrongW).map (·.1)) : ∀ (ds : List DT) (i : Nat), (∀ d ∈ ds, stmtB d = true → ∀ c ∈ blocksB d, depW m c) →
    goItems (firstR f) f (12 - f) path lp ds i = ((itemsW (rowsW m) path lp ds i).find? wrongW).map (·.1)
  | [], _, _ => rfl
  | d :: ds, i, h => by
    have hd := h d List.mem_cons_self
    unfold goItems itemsW
    rw [wrong_eq (w := path ++ [i]) hd hm hf, List.find?_cons]
    cases c : wrongW (path ++ [i], d, lp) with
    | true => rfl
    | false =>
      have hs : stmtB d = true := by
        cases hs : stmtB d with
        | true => rfl
        | false =>
          have z : (!stmtB d || wrongS lp d) = false := c
          rw [hs] at z
          cases z
      rw [if_neg (by decide), first_blocks rec _ _ (hd hs), List.find?_append, first_items hm hf rec ds (i + 1) fun x hx => h x (List.mem_cons_of_mem _ hx)]
      unfold inW
      rw [if_pos hs]
      cases (blocksW (rowsW m) (path ++ [i]) (lp || decide (headB d = "repeat")) (blocksB d) 0).find? wrongW <;> rfl
theorem first_rows : ∀ {m f : Nat} {b : DT} {path : List Nat} {lp : Bool}, m ≤ f → f ≤ 12 → depW m b → firstR f b path lp = ((rowsW m b path lp).find? wrongW).map (·.1)
  | 0, _, _, _, _, _, _, h => h.elim
  | m + 1, 0, _, _, _, h, _, _ => absurd h (by omega)
  | m + 1, f + 1, b, path, lp, hm, hf, h => first_items (by omega) (by omega) (fun z => first_rows (by omega) (by omega) z) (listB b) 0 h
/-! ### the rows ascend -/
def ltP : List Nat → List Nat → Bool
  | [], [] => false
  | [], _ :: _ => true
  | _ :: _, [] => false
  | a :: r, b :: s => decide (a < b) || (decide (a = b) && ltP r s)
theorem ltP_pre : ∀ (u v w : List Nat), ltP (u ++ v) (u ++ w) = ltP v w
  | [], _, _ => rfl
  | a :: u, v, w => by
    show (decide (a < a) || (decide (a = a) && ltP (u ++ v) (u ++ w))) = _
    rw [decide_eq_false (Nat.lt_irrefl a), decide_eq_true rfl, ltP_pre u v w]
    rfl
theorem ltP_self : ∀ u, ltP u u = false
  | [] => rfl
  | a :: u => by
    show (decide (a < a) || (decide (a = a) && ltP u u)) = _
    rw [decide_eq_false (Nat.lt_irrefl a), ltP_self u]
    simp
theorem ltP_asym : ∀ {u v}, ltP u v = true → ltP v u = false
  | [], [], h => by cases h
  | [], _ :: _, _ => rfl
  | _ :: _, [], h => by cases h
  | a :: r, b :: s, h => by
    have h : (decide (a < b) || (decide (a = b) && ltP r s)) = true := h
    show (decide (b < a) || (decide (b = a) && ltP s r)) = false
    rcases Bool.or_eq_true_iff.mp h with h | h
    · have := of_decide_eq_true h
      rw [decide_eq_false (by omega), decide_eq_false (by omega)]
      rfl
    · obtain ⟨h1, h2⟩ := Bool.and_eq_true_iff.mp h
      have := of_decide_eq_true h1
      rw [decide_eq_false (by omega), ltP_asym h2]
      simp
theorem rows_begin : ∀ {m : Nat} {b : DT} {path : List Nat} {lp : Bool} {r : WRow}, r ∈ rowsW m b path lp → ∃ i v, r.1 = path ++ i :: v
  | 0, _, _, _, _, h => by cases h
  | m + 1, b, path, lp, r, h => by
    have key : ∀ (ds : List DT) (i : Nat), r ∈ itemsW (rowsW m) path lp ds i → ∃ j v, i ≤ j ∧ r.1 = path ++ j :: v := by
      intro ds
      induction ds with
      | nil => intro i h; cases h
      | cons d ds ih =>
        intro i h
        unfold itemsW at h
        rcases List.mem_cons.mp h with rfl | h
        · exact ⟨i, [], Nat.le_refl _, rfl⟩
        rcases List.mem_append.mp h with h | h
        · unfold inW at h
          split at h
          · have kb : ∀ (cs : List DT) (j : Nat), r ∈ blocksW (rowsW m) (path ++ [i]) (lp || decide (headB d = "repeat")) cs j → ∃ v, r.1 = path ++ i :: v := by
              intro cs
              induction cs with
              | nil => intro j h; cases h
              | cons c cs ih2 =>
                intro j h
                unfold blocksW at h
                rcases List.mem_append.mp h with h | h
                · obtain ⟨k, v, e⟩ := rows_begin h
                  exact ⟨j :: k :: v, by rw [e]; simp⟩
                · exact ih2 _ h
            obtain ⟨v, e⟩ := kb _ _ h
            exact ⟨i, v, Nat.le_refl _, e⟩
          · cases h
        · obtain ⟨j, v, hj, e⟩ := ih (i + 1) h
          exact ⟨j, v, by omega, e⟩
    obtain ⟨j, v, _, e⟩ := key (listB b) 0 h
    exact ⟨j, v, e⟩
theorem blocks_begin {m : Nat} {here : List Nat} {lp : Bool} {r : WRow} : ∀ (cs : List DT) (j : Nat), r ∈ blocksW (rowsW m) here lp cs j → ∃ k v, j ≤ k ∧ r.1 = here ++ k :: v
  | [], _, h => by cases h
  | c :: cs, j, h => by
    unfold blocksW at h
    rcases List.mem_append.mp h with h | h
    · obtain ⟨k, v, e⟩ := rows_begin h
      exact ⟨j, k :: v, Nat.le_refl _, by rw [e]; simp⟩
    · obtain ⟨k, v, hk, e⟩ := blocks_begin cs (j + 1) h
      exact ⟨k, v, by omega, e⟩
theorem items_begin {m : Nat} {path : List Nat} {lp : Bool} {r : WRow} : ∀ (ds : List DT) (i : Nat), r ∈ itemsW (rowsW m) path lp ds i → ∃ k v, i ≤ k ∧ r.1 = path ++ k :: v
  | [], _, h => by cases h
  | d :: ds, i, h => by
    unfold itemsW at h
    rcases List.mem_cons.mp h with rfl | h
    · exact ⟨i, [], Nat.le_refl _, rfl⟩
    rcases List.mem_append.mp h with h | h
    · unfold inW at h
      split at h
      · obtain ⟨k, v, _, e⟩ := blocks_begin _ _ h
        exact ⟨i, k :: v, Nat.le_refl _, by rw [e]; simp⟩
      · cases h
    · obtain ⟨k, v, hk, e⟩ := items_begin ds (i + 1) h
      exact ⟨k, v, by omega, e⟩
abbrev Asc (l : List WRow) : Prop := l.Pairwise fun a b => ltP a.1 b.1 = true
theorem ltP_idx {u v w : List Nat} {i j : Nat} (h : i < j) : ltP (u ++ i :: v) (u ++ j :: w) = true := by
  rw [ltP_pre]
  show (decide (i < j) || _) = true
  rw [decide_eq_true h]
  rfl
theorem blocks_asc {m : Nat} {here : List Nat} {lp : Bool} (rec : ∀ {b : DT} {path : List Nat} {lp : Bool}, Asc (rowsW m b path lp)) : ∀ (cs : List DT) (j : Nat), Asc (blocksW (rowsW m) here lp cs j)
  | [], _ => .nil
  | c :: cs, j => by
    unfold blocksW
    refine List.pairwise_append.mpr ⟨rec, blocks_asc rec cs (j + 1), fun a ha b hb => ?_⟩
    obtain ⟨k, v, e⟩ := rows_begin ha
    obtain ⟨k2, v2, h2, e2⟩ := blocks_begin cs (j + 1) hb
    rw [e, e2, List.append_assoc]
    exact ltP_idx (by omega)
theorem items_asc {m : Nat} {path : List Nat} {lp : Bool} (rec : ∀ {b : DT} {path : List Nat} {lp : Bool}, Asc (rowsW m b path lp)) : ∀ (ds : List DT) (i : Nat), Asc (itemsW (rowsW m) path lp ds i)
  | [], _ => .nil
  | d :: ds, i => by
    unfold itemsW
    have hin : ∀ a ∈ inW (rowsW m) (path ++ [i]) lp d, ∃ k v, a.1 = path ++ i :: k :: v := fun a ha => by
      unfold inW at ha
      split at ha
      · obtain ⟨k, v, _, e⟩ := blocks_begin _ _ ha
        exact ⟨k, v, by rw [e]; simp⟩
      · cases ha
    refine List.pairwise_cons.mpr ⟨fun b hb => ?_, List.pairwise_append.mpr ⟨?_, items_asc rec ds (i + 1), fun a ha b hb => ?_⟩⟩
    · rcases List.mem_append.mp hb with hb | hb
      · obtain ⟨k, v, e⟩ := hin b hb
        rw [e]
        show ltP (path ++ [i]) _ = true
        rw [ltP_pre]
        show (decide (i < i) || (decide (i = i) && ltP [] (k :: v))) = true
        rw [decide_eq_true (rfl : i = i)]
        show (_ || (true && true)) = true
        simp
      · obtain ⟨k, v, hk, e⟩ := items_begin ds (i + 1) hb
        rw [e]
        exact ltP_idx (by omega)
    · unfold inW
      split
      · exact blocks_asc rec _ _
      · exact .nil
    · obtain ⟨k, v, e⟩ := hin a ha
      obtain ⟨k2, v2, h2, e2⟩ := items_begin ds (i + 1) hb
      rw [e, e2]
      exact ltP_idx (by omega)
theorem rows_asc : ∀ {m : Nat} {b : DT} {path : List Nat} {lp : Bool}, Asc (rowsW m b path lp)
  | 0, _, _, _ => .nil
  | m + 1, b, path, lp => items_asc (fun {_ _ _} => rows_asc) (listB b) 0
theorem find_least {p : WRow → Bool} : ∀ {l : List WRow}, Asc l → ∀ {r : WRow}, l.find? p = some r → ∀ q ∈ l, p q = true → q = r ∨ ltP r.1 q.1 = true
  | [], _, _, h, _, _, _ => by cases h
  | x :: l, a, r, h, q, hq, hp => by
    obtain ⟨a1, a2⟩ := List.pairwise_cons.mp a
    rw [List.find?_cons] at h
    cases c : p x with
    | true =>
      rw [c] at h
      obtain rfl := Option.some.inj h
      rcases List.mem_cons.mp hq with e | hq
      · exact .inl e
      · exact .inr (a1 q hq)
    | false =>
      rw [c] at h
      rcases List.mem_cons.mp hq with e | hq
      · rw [e, c] at hp
        cases hp
      · exact find_least a2 h q hq hp
end Oh
namespace Oh
open PySem PySem.Spec PyProof.Rows L2 PpSet
/-- the item at a path, through statements alone -/
def atW : DT → List Nat → Option DT
  | _, [] => none
  | b, [i] => (listB b)[i]?
  | b, i :: j :: w => match (listB b)[i]? with
    | none => none
    | some d => if stmtB d = true then (match (blocksB d)[j]? with
      | none => none
      | some c => atW c w) else none
theorem at_cons {b d c : DT} {i j : Nat} {w : List Nat} (h1 : (listB b)[i]? = some d) (h2 : stmtB d = true) (h3 : (blocksB d)[j]? = some c) : atW b (i :: j :: w) = atW c w := by
  conv => lhs; unfold atW
  rw [h1]
  show (if stmtB d = true then _ else none) = _
  rw [if_pos h2, h3]
theorem at_inv {b x : DT} {i j : Nat} {w : List Nat} (h : atW b (i :: j :: w) = some x) : ∃ d c, (listB b)[i]? = some d ∧ stmtB d = true ∧ (blocksB d)[j]? = some c ∧ atW c w = some x := by
  unfold atW at h
  cases h1 : (listB b)[i]? with
  | none => rw [h1] at h; cases h
  | some d =>
    rw [h1] at h
    have h : (if stmtB d = true then (match (blocksB d)[j]? with
      | none => none
      | some c => atW c w) else none) = some x := h
    cases h2 : stmtB d with
    | false => rw [h2, if_neg (by decide)] at h; cases h
    | true =>
      rw [h2, if_pos rfl] at h
      cases h3 : (blocksB d)[j]? with
      | none => rw [h3] at h; cases h
      | some c =>
        rw [h3] at h
        exact ⟨d, c, rfl, h2, h3, h⟩
theorem rows_at : ∀ {m : Nat} {b : DT} {path : List Nat} {lp : Bool} {r : WRow}, r ∈ rowsW m b path lp → ∃ v, r.1 = path ++ v ∧ atW b v = some r.2.1
  | 0, _, _, _, _, h => by cases h
  | m + 1, b, path, lp, r, h => by
    have key : ∀ (ds : List DT) (i : Nat), (∀ k, ds[k]? = (listB b)[i + k]?) → r ∈ itemsW (rowsW m) path lp ds i → ∃ v, r.1 = path ++ v ∧ atW b v = some r.2.1 := by
      intro ds
      induction ds with
      | nil => intro i _ h; cases h
      | cons d ds ih =>
        intro i hi h
        have hd : (listB b)[i]? = some d := (hi 0).symm
        unfold itemsW at h
        rcases List.mem_cons.mp h with rfl | h
        · exact ⟨[i], rfl, hd⟩
        rcases List.mem_append.mp h with h | h
        · unfold inW at h
          split at h
          · rename_i hs
            have kb : ∀ (cs : List DT) (j : Nat), (∀ k, cs[k]? = (blocksB d)[j + k]?) → r ∈ blocksW (rowsW m) (path ++ [i]) (lp || decide (headB d = "repeat")) cs j → ∃ v, r.1 = path ++ v ∧ atW b v = some r.2.1 := by
              intro cs
              induction cs with
              | nil => intro j _ h; cases h
              | cons c cs ih2 =>
                intro j hj h
                unfold blocksW at h
                rcases List.mem_append.mp h with h | h
                · obtain ⟨v, e, ev⟩ := rows_at h
                  exact ⟨i :: j :: v, by rw [e]; simp, (at_cons hd hs (hj 0).symm).trans ev⟩
                · exact ih2 (j + 1) (fun k => by rw [show j + 1 + k = j + (k + 1) by omega]; exact hj (k + 1)) h
            exact kb _ 0 (fun k => by rw [Nat.zero_add]) h
          · cases h
        · exact ih (i + 1) (fun k => by rw [show i + 1 + k = i + (k + 1) by omega]; exact hi (k + 1)) h
    exact key (listB b) 0 (fun k => by rw [Nat.zero_add]) h
theorem blocks_mem {m : Nat} {here : List Nat} {lp : Bool} {r : WRow} {c : DT} : ∀ (cs : List DT) (j k : Nat), cs[k]? = some c → r ∈ rowsW m c (here ++ [j + k]) lp → r ∈ blocksW (rowsW m) here lp cs j
  | [], _, _, h, _ => by cases h
  | x :: cs, j, 0, h, hr => by
    obtain rfl := Option.some.inj (show some x = some c from h)
    unfold blocksW
    exact List.mem_append_left _ hr
  | x :: cs, j, k + 1, h, hr => by
    unfold blocksW
    exact List.mem_append_right _ (blocks_mem cs (j + 1) k (by simpa using h) (by rw [show j + 1 + k = j + (k + 1) by omega]; exact hr))
theorem items_mem {m : Nat} {path : List Nat} {lp : Bool} {d : DT} : ∀ (ds : List DT) (i k : Nat), ds[k]? = some d → (path ++ [i + k], d, lp) ∈ itemsW (rowsW m) path lp ds i ∧ ∀ r ∈ inW (rowsW m) (path ++ [i + k]) lp d, r ∈ itemsW (rowsW m) path lp ds i
  | [], _, _, h => by cases h
  | x :: ds, i, 0, h => by
    obtain rfl := Option.some.inj (show some x = some d from h)
    unfold itemsW
    exact ⟨List.mem_cons_self, fun r hr => List.mem_cons_of_mem _ (List.mem_append_left _ hr)⟩
  | x :: ds, i, k + 1, h => by
    obtain ⟨z1, z2⟩ := items_mem (m := m) (path := path) (lp := lp) ds (i + 1) k (by simpa using h)
    rw [show i + 1 + k = i + (k + 1) by omega] at z1 z2
    unfold itemsW
    exact ⟨List.mem_cons_of_mem _ (List.mem_append_right _ z1), fun r hr => List.mem_cons_of_mem _ (List.mem_append_right _ (z2 r hr))⟩
theorem at_rows : ∀ {m : Nat} {v : List Nat} {b : DT} {path : List Nat} {lp : Bool} {d : DT}, depW m b → atW b v = some d → ∃ lp', (path ++ v, d, lp') ∈ rowsW m b path lp
  | 0, _, _, _, _, _, h, _ => h.elim
  | _ + 1, [], _, _, _, _, _, h => by cases h
  | m + 1, [i], b, path, lp, d, _, h => by
    have z := (items_mem (m := m) (path := path) (lp := lp) (listB b) 0 i h).1
    rw [Nat.zero_add] at z
    exact ⟨lp, z⟩
  | m + 1, i :: j :: w, b, path, lp, x, hd, h => by
    obtain ⟨d, c, h1, h2, h3, h4⟩ := at_inv h
    obtain ⟨lp', z⟩ := at_rows (m := m) (path := path ++ [i] ++ [j]) (lp := lp || decide (headB d = "repeat")) (hd d (List.mem_of_getElem? h1) h2 c (List.mem_of_getElem? h3)) h4
    refine ⟨lp', ?_⟩
    have y := (items_mem (m := m) (path := path) (lp := lp) (listB b) 0 i h1).2
    rw [Nat.zero_add] at y
    refine y _ ?_
    unfold inW
    rw [if_pos h2]
    refine blocks_mem (blocksB d) 0 j h3 ?_
    rw [Nat.zero_add]
    rw [show path ++ i :: j :: w = path ++ [i] ++ [j] ++ w by simp]
    exact z
/-! ### how many -/
def wtW (f : DT → Nat) (d : DT) : Nat := 1 + if stmtB d = true then ((blocksB d).map f).sum else 0
def cntW : Nat → DT → Nat
  | 0 => fun _ => 0
  | m + 1 => fun b => ((listB b).map (wtW (cntW m))).sum
theorem rows_len : ∀ {m : Nat} {b : DT} {path : List Nat} {lp : Bool}, (rowsW m b path lp).length = cntW m b
  | 0, _, _, _ => rfl
  | m + 1, b, path, lp => by
    have hb : ∀ (here : List Nat) (lp : Bool) (cs : List DT) (j : Nat), (blocksW (rowsW m) here lp cs j).length = (cs.map (cntW m)).sum := by
      intro here lp cs
      induction cs with
      | nil => intro j; rfl
      | cons c cs ih =>
        intro j
        unfold blocksW
        rw [List.length_append, rows_len, ih, List.map_cons, List.sum_cons]
    have hi : ∀ (ds : List DT) (i : Nat), (itemsW (rowsW m) path lp ds i).length = (ds.map (wtW (cntW m))).sum := by
      intro ds
      induction ds with
      | nil => intro i; rfl
      | cons d ds ih =>
        intro i
        unfold itemsW
        rw [List.length_cons, List.length_append, ih, List.map_cons, List.sum_cons]
        have e : (inW (rowsW m) (path ++ [i]) lp d).length = if stmtB d = true then ((blocksB d).map (cntW m)).sum else 0 := by
          unfold inW
          split
          · exact hb _ _ _ _
          · rfl
        rw [e]
        show _ = (1 + _) + _
        omega
    exact hi (listB b) 0
theorem count_good : ∀ {m : Nat} {b : DT}, goodR m b = true → countR m b = cntW m b
  | 0, _, h => by cases h
  | m + 1, b, h => by
    obtain ⟨l, rfl, _, z⟩ := good_inv h
    show (l.map fun d => 1 + ((blocksB d).map (countR m)).sum).sum = (l.map (wtW (cntW m))).sum
    refine congrArg List.sum (List.map_congr_left fun d hd => ?_)
    unfold wtW
    rw [if_pos (z d hd).1, List.map_congr_left fun c hc => count_good ((z d hd).2 c hc)]
theorem sum_set (k : Nat) : ∀ (l : List Nat) (i y : Nat), (∀ z, l[i]? = some z → y ≤ z + k) → (l.set i y).sum ≤ l.sum + k
  | [], _, _, _ => Nat.zero_le _
  | x :: l, 0, y, h => by
    have := h x rfl
    rw [List.set_cons_zero, List.sum_cons, List.sum_cons]
    omega
  | x :: l, i + 1, y, h => by
    have := sum_set k l i y (fun z hz => h z (by simpa using hz))
    rw [List.set_cons_succ, List.sum_cons, List.sum_cons]
    omega
/-! ### another item -/
def rowP (r c : DT) : DT := .tup [argB r 0, argB r 1, c]
def withW (d : DT) (j : Nat) (c : DT) : DT :=
  if headB d = "wait" then waitD ((listB (argB d 1)).set j (rowP ((listB (argB d 1)).getD j .non) c))
  else if headB d = "open" then openD ((listB (argB d 1)).set j c)
  else if headB d = "repeat" then repD c
  else if j = 0 then ifD (argB d 1) c (argB d 3) else ifD (argB d 1) (argB d 2) c
theorem names_if' {e b c : DT} : namesB (ifD e b c) = namesX 4 e := by unfold namesB; rw [if_neg (ne_head (by decide)), if_neg (ne_head (by decide)), if_pos (eq_head rfl)]; rfl
theorem names_no {d : DT} {h : Str} (e : headB d = h) (h1 : h ≠ "set") (h2 : h ≠ "tell") (h3 : h ≠ "if") (h4 : h ≠ "hear") (h5 : h ≠ "wait") : namesB d = [] := by
  subst e
  unfold namesB
  rw [if_neg h1, if_neg h2, if_neg h3, if_neg h4, if_neg h5]
theorem ports_no {d : DT} {h : Str} (e : headB d = h) (h1 : h ≠ "tell") (h2 : h ≠ "hear") (h3 : h ≠ "wait") : portsB d = [] := by
  subst e
  unfold portsB
  rw [if_neg (fun z => z.elim h1 h2), if_neg h3]
/-- a statement with another block in it -/
structure WithW (d : DT) (j : Nat) (c e : DT) : Prop where
  st : stmtB e = true
  hd : headB e = headB d
  bl : blocksB e = (blocksB d).set j c
  nm : namesB e = namesB d
  po : portsB e = portsB d
theorem port_rowP {r c : DT} : portB (rowP r c) = portB r := rfl
theorem with_ok {d c0 c : DT} {j : Nat} (hs : stmtB d = true) (hj : (blocksB d)[j]? = some c0) (hc : blockB c = true) : WithW d j c (withW d j c) := by
  obtain ⟨hl, _⟩ := List.getElem?_eq_some_iff.mp hj
  unfold withW
  by_cases c3 : headB d = "wait"
  · obtain ⟨z1, z2, z3, z4⟩ := wait_len hs c3
    obtain ⟨rows, er, l4⟩ := choice_inv z2
    have hbl : blocksB d = rows.map fun r => argB r 2 := by unfold blocksB; rw [if_neg (by rw [c3]; decide), if_neg (by rw [c3]; decide), if_neg (by rw [c3]; decide), if_pos c3, er]; rfl
    have e1 : listB (argB d 1) = rows := by rw [er]; rfl
    rw [if_pos c3, e1]
    rw [e1] at z3 z4
    have hj2 : j < rows.length := by rw [hbl, List.length_map] at hl; exact hl
    have eg : rows.getD j .non = rows[j] := by rw [List.getD_eq_getElem?_getD, List.getElem?_eq_getElem hj2]; rfl
    rw [eg]
    have hr := z3 rows[j] (List.getElem_mem hj2)
    have zn := row_names hr
    have hrow : rowB (rowP rows[j] c) = true := by
      show (true && (nameB (argB rows[j] 0) && (nameB (argB rows[j] 1) && blockB c))) = true
      rw [zn.1, zn.2, hc]
      rfl
    have hp : (rows.set j (rowP rows[j] c)).map portB = rows.map portB := by
      rw [List.map_set, port_rowP]
      exact List.ext_getElem? fun k => by
        rw [List.getElem?_set]
        split
        · rename_i e
          subst e
          rw [if_pos (by rw [List.length_map]; exact hj2), List.getElem?_map, List.getElem?_eq_getElem hj2]
          rfl
        · rfl
    refine ⟨?_, ?_, ?_, ?_, ?_⟩
    · rw [stmt_wait, hp, decide_eq_true z4]
      have h1 : choiceB (.tup (rows.set j (rowP rows[j] c))) = true := by
        rw [er] at z2
        have z2 : (decide (1 ≤ rows.length) && decide (rows.length ≤ 4)) = true := z2
        show (decide (1 ≤ (rows.set j (rowP rows[j] c)).length) && decide ((rows.set j (rowP rows[j] c)).length ≤ 4)) = true
        rw [List.length_set]
        exact z2
      rw [h1, show ((rows.set j (rowP rows[j] c)).map rowB).all id = true from List.all_eq_true.mpr fun x hx => by
        obtain ⟨r, mr, rfl⟩ := List.mem_map.mp hx
        rcases List.mem_or_eq_of_mem_set mr with mr | rfl
        · exact z3 r mr
        · exact hrow]
      rfl
    · exact c3.symm
    · rw [blocks_wait, hbl, List.map_set]
      rfl
    · rw [show namesB d = (listB (argB d 1)).map (fun r => strB (argB r 1)) by
        unfold namesB
        rw [if_neg (by rw [c3]; decide), if_neg (by rw [c3]; decide), if_neg (by rw [c3]; decide), if_neg (by rw [c3]; decide), if_pos c3], e1]
      show (rows.set j (rowP rows[j] c)).map (fun r => strB (argB r 1)) = _
      rw [List.map_set]
      exact List.ext_getElem? fun k => by
        rw [List.getElem?_set]
        split
        · rename_i e
          subst e
          rw [if_pos (by rw [List.length_map]; exact hj2), List.getElem?_map, List.getElem?_eq_getElem hj2]
          rfl
        · rfl
    · rw [show portsB d = (listB (argB d 1)).map portB by
        unfold portsB
        rw [if_neg (by rw [c3]; decide), if_pos c3], e1]
      exact hp
  rw [if_neg c3]
  by_cases c4 : headB d = "open"
  · obtain ⟨z1, z2, z3⟩ := open_len hs c4
    obtain ⟨bs, er, l4⟩ := choice_inv z2
    have hbl : blocksB d = bs := by unfold blocksB; rw [if_neg (by rw [c4]; decide), if_neg (by rw [c4]; decide), if_pos c4, er]; rfl
    have e1 : listB (argB d 1) = bs := by rw [er]; rfl
    rw [if_pos c4, e1]
    rw [e1] at z3
    refine ⟨?_, c4.symm, ?_, ?_, ?_⟩
    · rw [stmt_open]
      have h1 : choiceB (.tup (bs.set j c)) = true := by
        rw [er] at z2
        have z2 : (decide (1 ≤ bs.length) && decide (bs.length ≤ 4)) = true := z2
        show (decide (1 ≤ (bs.set j c).length) && decide ((bs.set j c).length ≤ 4)) = true
        rw [List.length_set]
        exact z2
      rw [h1, show ((bs.set j c).map blockB).all id = true from List.all_eq_true.mpr fun x hx => by
        obtain ⟨r, mr, rfl⟩ := List.mem_map.mp hx
        rcases List.mem_or_eq_of_mem_set mr with mr | rfl
        · exact z3 r mr
        · exact hc]
      rfl
    · rw [blocks_open, hbl]
    · rw [names_no c4 (by decide) (by decide) (by decide) (by decide) (by decide), names_no (d := openD _) (h := "open") rfl (by decide) (by decide) (by decide) (by decide) (by decide)]
    · rw [ports_no c4 (by decide) (by decide) (by decide), ports_no (d := openD _) (h := "open") rfl (by decide) (by decide) (by decide)]
  rw [if_neg c4]
  by_cases c6 : headB d = "repeat"
  · rw [if_pos c6]
    have hbl : blocksB d = [argB d 1] := blocks_head c6
    have j0 : j = 0 := by rw [hbl] at hl; exact Nat.lt_one_iff.mp hl
    subst j0
    refine ⟨by rw [stmt_rep]; exact hc, c6.symm, by rw [blocks_rep, hbl]; rfl, ?_, ?_⟩
    · rw [names_no c6 (by decide) (by decide) (by decide) (by decide) (by decide), names_no (d := repD _) (h := "repeat") rfl (by decide) (by decide) (by decide) (by decide) (by decide)]
    · rw [ports_no c6 (by decide) (by decide) (by decide), ports_no (d := repD _) (h := "repeat") rfl (by decide) (by decide) (by decide)]
  rw [if_neg c6]
  have c5 : headB d = "if" := by
    refine Classical.byContradiction fun c5 => ?_
    rw [bl_none c5 c6 c4 c3] at hl
    exact absurd hl (Nat.not_lt_zero _)
  obtain ⟨z1, z2, z3, z4⟩ := if_len hs c5
  have hbl : blocksB d = [argB d 2, argB d 3] := by unfold blocksB; rw [if_pos c5]
  have j2 : j = 0 ∨ j = 1 := by
    have : j < 2 := by rw [hbl] at hl; exact hl
    omega
  have fin : ∀ x y, blockB x = true → blockB y = true → stmtB (ifD (argB d 1) x y) = true ∧ namesB (ifD (argB d 1) x y) = namesB d ∧ portsB (ifD (argB d 1) x y) = portsB d := fun x y hx hy => by
    refine ⟨by rw [stmt_if, z4, hx, hy]; rfl, ?_, ?_⟩
    · rw [names_if']
      conv => rhs; unfold namesB
      rw [if_neg (by rw [c5]; decide), if_neg (by rw [c5]; decide), if_pos c5]
    · rw [ports_no c5 (by decide) (by decide) (by decide), ports_no (d := ifD _ _ _) (h := "if") rfl (by decide) (by decide) (by decide)]
  rcases j2 with rfl | rfl
  · rw [if_pos rfl]
    obtain ⟨f1, f2, f3⟩ := fin c (argB d 3) hc z3
    exact ⟨f1, c5.symm, by rw [blocks_if, hbl]; rfl, f2, f3⟩
  · rw [if_neg (by decide)]
    obtain ⟨f1, f2, f3⟩ := fin (argB d 2) c z2 hc
    exact ⟨f1, c5.symm, by rw [blocks_if, hbl]; rfl, f2, f3⟩
end Oh
namespace Oh
open PySem PySem.Spec PyProof.Rows L2 PpSet
theorem row_block {r : DT} (h : rowB r = true) : blockB (argB r 2) = true := by
  obtain ⟨_, h⟩ := Bool.and_eq_true_iff.mp h
  obtain ⟨_, h⟩ := Bool.and_eq_true_iff.mp h
  exact (Bool.and_eq_true_iff.mp h).2
theorem stmt_blocks {d c : DT} (hs : stmtB d = true) (hc : c ∈ blocksB d) : blockB c = true := by
  by_cases c5 : headB d = "if"
  · obtain ⟨_, z2, z3, _⟩ := if_len hs c5
    have hbl : blocksB d = [argB d 2, argB d 3] := by unfold blocksB; rw [if_pos c5]
    rw [hbl] at hc
    rcases List.mem_cons.mp hc with rfl | hc
    · exact z2
    · rw [List.mem_singleton.mp hc]
      exact z3
  by_cases c6 : headB d = "repeat"
  · rw [blocks_head c6] at hc
    rw [List.mem_singleton.mp hc]
    exact (repeat_len hs c6).2
  by_cases c4 : headB d = "open"
  · obtain ⟨_, _, z3⟩ := open_len hs c4
    have hbl : blocksB d = listB (argB d 1) := by unfold blocksB; rw [if_neg c5, if_neg c6, if_pos c4]
    rw [hbl] at hc
    exact z3 c hc
  by_cases c3 : headB d = "wait"
  · obtain ⟨_, _, z3, _⟩ := wait_len hs c3
    have hbl : blocksB d = (listB (argB d 1)).map fun r => argB r 2 := by unfold blocksB; rw [if_neg c5, if_neg c6, if_neg c4, if_pos c3]
    rw [hbl] at hc
    obtain ⟨r, mr, rfl⟩ := List.mem_map.mp hc
    exact row_block (z3 r mr)
  · rw [bl_none c5 c6 c4 c3] at hc
    cases hc
/-- another item at a path -/
def putW : DT → List Nat → DT → DT
  | b, [], _ => b
  | b, [i], x => .tup ((listB b).set i x)
  | b, i :: j :: w, x => match (listB b)[i]? with
    | none => b
    | some d => match (blocksB d)[j]? with
      | none => b
      | some c => .tup ((listB b).set i (withW d j (putW c w x)))
theorem put_cons {b d c x : DT} {i j : Nat} {w : List Nat} (h1 : (listB b)[i]? = some d) (h3 : (blocksB d)[j]? = some c) : putW b (i :: j :: w) x = .tup ((listB b).set i (withW d j (putW c w x))) := by
  conv => lhs; unfold putW
  rw [h1]
  show (match (blocksB d)[j]? with
      | none => b
      | some c => DT.tup ((listB b).set i (withW d j (putW c w x)))) = _
  rw [h3]
theorem put_block {b x d0 : DT} {w : List Nat} (hb : blockB b = true) (h : atW b w = some d0) : blockB (putW b w x) = true := by
  obtain ⟨l, rfl, l12⟩ := block_inv hb
  match w, h with
  | [i], _ => exact decide_eq_true (by rw [List.length_set]; exact l12)
  | i :: j :: w, h =>
    obtain ⟨d, c, h1, h2, h3, h4⟩ := at_inv h
    rw [put_cons h1 h3]
    exact decide_eq_true (by rw [List.length_set]; exact l12)
theorem put_with {d c x d0 : DT} {j : Nat} {w : List Nat} (h2 : stmtB d = true) (h3 : (blocksB d)[j]? = some c) (h4 : atW c w = some d0) : WithW d j (putW c w x) (withW d j (putW c w x)) :=
  with_ok h2 h3 (put_block (stmt_blocks h2 (List.mem_of_getElem? h3)) h4)
def AllAt (q : DT → Prop) (b : DT) : Prop := ∀ v d, atW b v = some d → q d
theorem set_get {l : List DT} {i k : Nat} {x y : DT} (h : (l.set i x)[k]? = some y) : (k = i ∧ y = x) ∨ (k ≠ i ∧ l[k]? = some y) := by
  rw [List.getElem?_set] at h
  split at h
  · rename_i e
    split at h
    · exact .inl ⟨e.symm, (Option.some.inj h).symm⟩
    · cases h
  · rename_i e
    exact .inr ⟨fun z => e z.symm, h⟩
theorem put_all {q : DT → Prop} {x : DT} (hq : ∀ d j c e, WithW d j c e → q d → q e) (hx : q x) (hi : stmtB x = true → ∀ c ∈ blocksB x, AllAt q c) : ∀ {w : List Nat} {b d0 : DT}, atW b w = some d0 → AllAt q b → AllAt q (putW b w x)
  | [i], b, d0, h, hb, v, y, hv => by
    rw [show putW b [i] x = .tup ((listB b).set i x) from rfl] at hv
    match v, hv with
    | [k], hv =>
      rcases set_get hv with ⟨_, rfl⟩ | ⟨_, e⟩
      · exact hx
      · exact hb [k] y e
    | k :: l :: v, hv =>
      obtain ⟨d, c, h1, h2, h3, h4⟩ := at_inv hv
      rcases set_get h1 with ⟨_, rfl⟩ | ⟨_, e⟩
      · exact hi h2 c (List.mem_of_getElem? h3) v y h4
      · exact hb (k :: l :: v) y ((at_cons e h2 h3).trans h4)
  | i :: j :: w, b, d0, h, hb, v, y, hv => by
    obtain ⟨d, c, h1, h2, h3, h4⟩ := at_inv h
    have W := put_with (x := x) h2 h3 h4
    rw [put_cons h1 h3] at hv
    match v, hv with
    | [k], hv =>
      rcases set_get hv with ⟨_, rfl⟩ | ⟨_, e⟩
      · exact hq _ _ _ _ W (hb [i] d h1)
      · exact hb [k] y e
    | k :: l :: v, hv =>
      obtain ⟨e, ce, g1, g2, g3, g4⟩ := at_inv hv
      rcases set_get g1 with ⟨_, rfl⟩ | ⟨_, e1⟩
      · rw [W.bl] at g3
        rcases set_get g3 with ⟨_, rfl⟩ | ⟨_, e3⟩
        · exact put_all hq hx hi h4 (fun v' y' hv' => hb (i :: j :: v') y' ((at_cons h1 h2 h3).trans hv')) v y g4
        · exact hb (i :: l :: v) y ((at_cons h1 h2 e3).trans g4)
      · exact hb (k :: l :: v) y ((at_cons e1 g2 g3).trans g4)
/-- an item at this path is no statement -/
def Bad (b : DT) (v : List Nat) : Prop := ∃ d, atW b v = some d ∧ stmtB d = false
theorem bad_one {b : DT} {k : Nat} : Bad b [k] ↔ ∃ d, (listB b)[k]? = some d ∧ stmtB d = false := Iff.rfl
theorem bad_nil {b : DT} : ¬ Bad b [] := fun ⟨_, e, _⟩ => by cases e
theorem bad_cons {b d c : DT} {k l : Nat} {v : List Nat} (h1 : (listB b)[k]? = some d) (h2 : stmtB d = true) (h3 : (blocksB d)[l]? = some c) : Bad b (k :: l :: v) ↔ Bad c v := by
  unfold Bad
  rw [at_cons h1 h2 h3]
theorem bad_cong {b b' : DT} {k l : Nat} {v : List Nat} (e : (listB b')[k]? = (listB b)[k]?) : Bad b' (k :: l :: v) ↔ Bad b (k :: l :: v) := by
  unfold Bad
  have z : atW b' (k :: l :: v) = atW b (k :: l :: v) := by
    conv => lhs; unfold atW
    conv => rhs; unfold atW
    rw [e]
  rw [z]
theorem get_set_ne {l : List DT} {i k : Nat} {x : DT} (h : k ≠ i) : (l.set i x)[k]? = l[k]? := by
  rw [List.getElem?_set, if_neg (fun z => h z.symm)]
theorem get_set_eq {l : List DT} {i : Nat} {x d : DT} (h : l[i]? = some d) : (l.set i x)[i]? = some x := by
  obtain ⟨hl, _⟩ := List.getElem?_eq_some_iff.mp h
  rw [List.getElem?_set, if_pos rfl, if_pos hl]
theorem put_bad {x : DT} (hi : stmtB x = true → ∀ c ∈ blocksB x, ∀ v, ¬ Bad c v) : ∀ {w : List Nat} {b d0 : DT}, atW b w = some d0 → ∀ v, Bad (putW b w x) v ↔ (Bad b v ∧ v.take w.length ≠ w) ∨ (v = w ∧ stmtB x = false)
  | [i], b, d0, h, v => by
    have hs : (((listB b).set i x)[i]?) = some x := get_set_eq h
    match v with
    | [] => exact ⟨fun z => absurd z bad_nil, fun z => z.elim (fun z => absurd z.1 bad_nil) (fun z => by cases z.1)⟩
    | [k] =>
      by_cases hk : k = i
      · subst hk
        refine ⟨fun ⟨d, e, z⟩ => .inr ⟨rfl, ?_⟩, fun z => z.elim (fun z => absurd rfl z.2) fun z => ⟨x, hs, z.2⟩⟩
        obtain rfl := Option.some.inj (hs.symm.trans e)
        exact z
      · refine ⟨fun ⟨d, e, z⟩ => .inl ⟨⟨d, (get_set_ne hk).symm.trans e, z⟩, fun z => hk (List.cons.inj z).1⟩, fun z => z.elim (fun ⟨⟨d, e, z⟩, _⟩ => ⟨d, (get_set_ne hk).trans e, z⟩) fun z => absurd (List.cons.inj z.1).1 hk⟩
    | k :: l :: v =>
      by_cases hk : k = i
      · subst hk
        refine ⟨fun ⟨d, e, z⟩ => ?_, fun z => z.elim (fun z => absurd rfl z.2) fun z => by cases z.1⟩
        obtain ⟨d1, c1, g1, g2, g3, g4⟩ := at_inv e
        obtain rfl := Option.some.inj (hs.symm.trans g1)
        exact absurd ⟨d, g4, z⟩ (hi g2 c1 (List.mem_of_getElem? g3) v)
      · refine (bad_cong (b' := .tup ((listB b).set i x)) (get_set_ne hk)).trans ⟨fun z => .inl ⟨z, fun z => hk (List.cons.inj z).1⟩, fun z => z.elim (fun z => z.1) fun z => by cases z.1⟩
  | i :: j :: w, b, d0, h, v => by
    obtain ⟨d, c, h1, h2, h3, h4⟩ := at_inv h
    have W := put_with (x := x) h2 h3 h4
    rw [put_cons h1 h3]
    have hs : (((listB b).set i (withW d j (putW c w x)))[i]?) = some (withW d j (putW c w x)) := get_set_eq h1
    match v with
    | [] => exact ⟨fun z => absurd z bad_nil, fun z => z.elim (fun z => absurd z.1 bad_nil) (fun z => by cases z.1)⟩
    | [k] =>
      by_cases hk : k = i
      · subst hk
        refine ⟨fun ⟨e, g, z⟩ => ?_, fun z => z.elim (fun ⟨⟨e, g, z⟩, _⟩ => ?_) fun z => by cases z.1⟩
        · obtain rfl := Option.some.inj (hs.symm.trans g)
          rw [W.st] at z
          cases z
        · obtain rfl := Option.some.inj (h1.symm.trans g)
          rw [h2] at z
          cases z
      · refine ⟨fun ⟨d, e, z⟩ => .inl ⟨⟨d, (get_set_ne hk).symm.trans e, z⟩, fun z => hk (List.cons.inj z).1⟩, fun z => z.elim (fun ⟨⟨d, e, z⟩, _⟩ => ⟨d, (get_set_ne hk).trans e, z⟩) fun z => by cases z.1⟩
    | k :: l :: v =>
      by_cases hk : k = i
      · subst hk
        by_cases hl : l = j
        · subst hl
          have e1 : Bad (.tup ((listB b).set k (withW d l (putW c w x)))) (k :: l :: v) ↔ Bad (putW c w x) v := bad_cons hs W.st (by rw [W.bl]; exact get_set_eq h3)
          rw [e1, put_bad hi h4 v, bad_cons h1 h2 h3]
          have e2 : (k :: l :: v).take (k :: l :: w).length = k :: l :: v.take w.length := rfl
          rw [e2]
          constructor
          · rintro (⟨z1, z2⟩ | ⟨z1, z2⟩)
            · exact .inl ⟨z1, fun z => z2 (List.cons.inj (List.cons.inj z).2).2⟩
            · exact .inr ⟨by rw [z1], z2⟩
          · rintro (⟨z1, z2⟩ | ⟨z1, z2⟩)
            · exact .inl ⟨z1, fun z => z2 (by rw [z])⟩
            · exact .inr ⟨(List.cons.inj (List.cons.inj z1).2).2, z2⟩
        · have ne : (k :: l :: v).take (k :: j :: w).length ≠ k :: j :: w := fun z => hl (List.cons.inj (List.cons.inj z).2).1
          have key : Bad (.tup ((listB b).set k (withW d j (putW c w x)))) (k :: l :: v) ↔ Bad b (k :: l :: v) := by
            constructor
            · rintro ⟨y, e, z⟩
              obtain ⟨d1, c1, g1, g2, g3, g4⟩ := at_inv e
              obtain rfl := Option.some.inj (hs.symm.trans g1)
              rw [W.bl, get_set_ne hl] at g3
              exact (bad_cons h1 h2 g3).mpr ⟨y, g4, z⟩
            · rintro ⟨y, e, z⟩
              obtain ⟨d1, c1, g1, g2, g3, g4⟩ := at_inv e
              obtain rfl := Option.some.inj (h1.symm.trans g1)
              exact (bad_cons (b := .tup ((listB b).set k (withW d j (putW c w x)))) hs W.st (by rw [W.bl, get_set_ne hl]; exact g3)).mpr ⟨y, g4, z⟩
          exact key.trans ⟨fun z => .inl ⟨z, ne⟩, fun z => z.elim (fun z => z.1) fun z => absurd (List.cons.inj (List.cons.inj z.1).2).1 hl⟩
      · refine (bad_cong (b := b) (get_set_ne hk)).trans ⟨fun z => .inl ⟨z, fun z => hk (List.cons.inj z).1⟩, fun z => z.elim (fun z => z.1) fun z => absurd (List.cons.inj z.1).1 hk⟩
theorem put_dep {x : DT} {k : Nat} (hi : stmtB x = true → ∀ c ∈ blocksB x, depW k c) : ∀ {w : List Nat} {b d0 : DT} {m : Nat}, atW b w = some d0 → depW m b → depW (m + k) (putW b w x)
  | _, _, _, 0, _, hb => hb.elim
  | [i], b, d0, m + 1, h, hb => by
    rw [show m + 1 + k = (m + k) + 1 by omega]
    intro d hd hs c hc
    rcases List.mem_or_eq_of_mem_set (show d ∈ (listB b).set i x from hd) with hd | rfl
    · exact dep_up (by omega) (hb d hd hs c hc)
    · exact dep_up (by omega) (hi hs c hc)
  | i :: j :: w, b, d0, m + 1, h, hb => by
    obtain ⟨d, c, h1, h2, h3, h4⟩ := at_inv h
    have W := put_with (x := x) h2 h3 h4
    rw [put_cons h1 h3, show m + 1 + k = (m + k) + 1 by omega]
    intro e he hs y hy
    rcases List.mem_or_eq_of_mem_set (show e ∈ (listB b).set i _ from he) with he | rfl
    · exact dep_up (by omega) (hb e he hs y hy)
    · rw [W.bl] at hy
      rcases List.mem_or_eq_of_mem_set hy with hy | rfl
      · exact dep_up (by omega) (hb d (List.mem_of_getElem? h1) h2 y hy)
      · exact put_dep hi h4 (hb d (List.mem_of_getElem? h1) h2 c (List.mem_of_getElem? h3))
theorem put_cnt {x : DT} {k : Nat} (hx : ∀ m, wtW (cntW m) x ≤ k) : ∀ {w : List Nat} {b d0 : DT} {m : Nat}, atW b w = some d0 → cntW m (putW b w x) ≤ cntW m b + k
  | _, _, _, 0, _ => Nat.zero_le _
  | [i], b, d0, m + 1, h => by
    show (((listB b).set i x).map (wtW (cntW m))).sum ≤ ((listB b).map (wtW (cntW m))).sum + k
    rw [List.map_set]
    exact sum_set k _ _ _ fun z _ => Nat.le_trans (hx m) (by omega)
  | i :: j :: w, b, d0, m + 1, h => by
    obtain ⟨d, c, h1, h2, h3, h4⟩ := at_inv h
    have W := put_with (x := x) h2 h3 h4
    rw [put_cons h1 h3]
    show (((listB b).set i (withW d j (putW c w x))).map (wtW (cntW m))).sum ≤ ((listB b).map (wtW (cntW m))).sum + k
    rw [List.map_set]
    refine sum_set k _ _ _ fun z hz => ?_
    rw [List.getElem?_map, h1] at hz
    obtain rfl := Option.some.inj hz
    unfold wtW
    rw [if_pos W.st, if_pos h2, W.bl, List.map_set]
    have := sum_set k ((blocksB d).map (cntW m)) j (cntW m (putW c w x)) fun z hz => by
      rw [List.getElem?_map, h3] at hz
      obtain rfl := Option.some.inj hz
      exact put_cnt hx h4
    omega
end Oh
namespace Oh
open PySem PySem.Spec PyProof.Rows L2 PpSet
theorem expr_digit {n : Nat} {d : DT} (h : digitB d = true) : exprB n d = true := by
  cases n <;> (unfold exprB; rw [h]; rfl)
theorem digit_int {i : Int} (h0 : 0 ≤ i) (h1 : i ≤ 9) : digitB (.int i) = true := by
  show (decide (0 ≤ i) && decide (i ≤ 9)) = true
  rw [decide_eq_true h0, decide_eq_true h1]
  rfl
theorem namesX_digit {n : Nat} {d : DT} (h : digitB d = true) : namesX n d = [] := by
  cases n <;> (unfold namesX; rw [if_pos h])
theorem expr_nameD {n : Nat} {s : Str} (h : nameB (.str s) = true) : exprB n (nameD s) = true := by
  rw [expr_name (eq_head rfl)]
  show (false || (true && nameB (.str s))) = true
  rw [h]
  rfl
theorem namesX_name {n : Nat} {s : Str} : namesX n (nameD s) = [s] := by
  cases n with
  | zero => unfold namesX; rw [if_neg (show ¬ digitB (nameD s) = true from (by intro z; cases z))]; rfl
  | succ n => unfold namesX; rw [if_neg (show ¬ digitB (nameD s) = true from (by intro z; cases z)), if_pos (eq_head rfl)]; rfl
theorem names_set {n : Str} {e : DT} : namesB (setD n e) = n :: namesX 4 e := by unfold namesB; rw [if_pos (eq_head rfl)]; rfl
theorem names_tell {n : Str} {e : DT} : namesB (tellD n e) = namesX 4 e := by unfold namesB; rw [if_neg (ne_head (by decide)), if_pos (eq_head rfl)]; rfl
theorem names_if {e b c : DT} : namesB (ifD e b c) = namesX 4 e := by unfold namesB; rw [if_neg (ne_head (by decide)), if_neg (ne_head (by decide)), if_pos (eq_head rfl)]; rfl
theorem names_hear {p n : Str} : namesB (hearD p n) = [n] := by unfold namesB; rw [if_neg (ne_head (by decide)), if_neg (ne_head (by decide)), if_neg (ne_head (by decide)), if_pos (eq_head rfl)]; rfl
theorem names_wait {rs : List DT} : namesB (waitD rs) = rs.map fun r => strB (argB r 1) := by unfold namesB; rw [if_neg (ne_head (by decide)), if_neg (ne_head (by decide)), if_neg (ne_head (by decide)), if_neg (ne_head (by decide)), if_pos (eq_head rfl)]; rfl
theorem names_other {h : Str} {l : List DT} (h1 : h ≠ "set") (h2 : h ≠ "tell") (h3 : h ≠ "if") (h4 : h ≠ "hear") (h5 : h ≠ "wait") : namesB (.tup (.str h :: l)) = [] := by
  unfold namesB; rw [if_neg (ne_head h1), if_neg (ne_head h2), if_neg (ne_head h3), if_neg (ne_head h4), if_neg (ne_head h5)]
theorem ports_tell {n : Str} {e : DT} : portsB (tellD n e) = [n] := by unfold portsB; rw [if_pos (Or.inl (eq_head rfl))]; rfl
theorem ports_hear {p n : Str} : portsB (hearD p n) = [p] := by unfold portsB; rw [if_pos (Or.inr (eq_head rfl))]; rfl
theorem ports_wait {rs : List DT} : portsB (waitD rs) = rs.map portB := by unfold portsB; rw [if_neg (fun z => z.elim (ne_head (by decide)) (ne_head (by decide))), if_pos (eq_head rfl)]; rfl
theorem ports_other {h : Str} {l : List DT} (h1 : h ≠ "tell") (h2 : h ≠ "hear") (h3 : h ≠ "wait") : portsB (.tup (.str h :: l)) = [] := by
  unfold portsB; rw [if_neg (fun z => z.elim (ne_head h1) (ne_head h2)), if_neg (ne_head h3)]
theorem mem1 {S : List Str} {n : Str} (h : n ∈ S) : ∀ k ∈ [n], k ∈ S := fun k hk => by
  rcases List.mem_cons.mp hk with rfl | hk
  · exact h
  · cases hk
theorem mem0 {S : List Str} {l : List Str} (e : l = []) : ∀ k ∈ l, k ∈ S := fun k hk => by rw [e] at hk; cases hk
theorem np_of {S1 S2 : List Str} {d : DT} {l1 l2 : List Str} (e1 : namesB d = l1) (e2 : portsB d = l2) (h1 : ∀ k ∈ l1, k ∈ S1) (h2 : ∀ k ∈ l2, k ∈ S2) : NP S1 S2 d := by
  subst e1 e2
  exact ⟨h1, h2⟩
theorem memc {S : List Str} {n : Str} {l : List Str} (h : n ∈ S) (t : ∀ k ∈ l, k ∈ S) : ∀ k ∈ n :: l, k ∈ S := fun k hk => by
  rcases List.mem_cons.mp hk with rfl | hk
  · exact h
  · exact t k hk
theorem np_set {S1 S2 : List Str} {n : Str} {e : DT} (h1 : n ∈ S1) (h2 : ∀ k ∈ namesX 4 e, k ∈ S1) : NP S1 S2 (setD n e) := np_of names_set (ports_other (by decide) (by decide) (by decide)) (memc h1 h2) (mem0 rfl)
theorem np_tell {S1 S2 : List Str} {p : Str} {e : DT} (h1 : p ∈ S2) (h2 : ∀ k ∈ namesX 4 e, k ∈ S1) : NP S1 S2 (tellD p e) := np_of names_tell ports_tell h2 (mem1 h1)
theorem np_hear {S1 S2 : List Str} {p n : Str} (h1 : p ∈ S2) (h2 : n ∈ S1) : NP S1 S2 (hearD p n) := np_of names_hear ports_hear (mem1 h2) (mem1 h1)
theorem np_if {S1 S2 : List Str} {e b c : DT} (h2 : ∀ k ∈ namesX 4 e, k ∈ S1) : NP S1 S2 (ifD e b c) := np_of names_if (ports_other (by decide) (by decide) (by decide)) h2 (mem0 rfl)
theorem np_other {S1 S2 : List Str} {h : Str} {l : List DT} (h1 : h ≠ "set") (h2 : h ≠ "tell") (h3 : h ≠ "if") (h4 : h ≠ "hear") (h5 : h ≠ "wait") : NP S1 S2 (.tup (.str h :: l)) :=
  np_of (names_other h1 h2 h3 h4 h5) (ports_other h2 h4 h5) (mem0 rfl) (mem0 rfl)
section
variable {K : PySem.W.Frag} {σ : L2.St} {H : Hp}
theorem EvA.lst {ta : TA} {ds : List DT} {Q : VK} (h : EvA K ta σ H ds) (k : ∀ p xs H', Same H H' → H p = none → H' p = some (.lst xs) → RpAll K H' xs ds → Q (.ref p) H') (hl : ds.length ≤ 1000 := by exact Nat.le_of_ble_eq_true rfl) : tLst ta σ H Q :=
  h H (Same.refl H) _ fun vs H2 s2 rs => ⟨by rw [rs.len]; exact small9 hl, fun p np => k p vs _ (s2.trans (Same.new np)) (s2.free np) upd_same (rs.keep (Same.new np))⟩
/-- an item of a written list at a drawn place -/
theorem ix_drawn {ta : TA} {ds : List DT} {Q : VK} {a c : Addr} {m : Int} (S : Src H a c) (h : EvA K ta σ H ds) (e : σ[0]? = some (some (.ref a))) (hm : m = (ds.length : Nat)) (h0 : 0 < ds.length) (hl : ds.length ≤ 1000)
    (k : ∀ (i : Nat) (hi : i < ds.length) v H', Rp K H' v ds[i] → Drw a c H H' → Q v H') : tOp (rIxL K) (tLst ta) (tCall spDraw [] E0 (tCons (tVar 0) (tCons (tC (.int m)) tNil))) σ H Q := by
  refine EvA.lst h (fun p xs H2 s2 np hp ra => ?_) hl
  have S2 := S.same s2
  refine ⟨_, e, a, c, m, rfl, S2, by omega, log2_small (by omega) (by omega), fun g H3 g0 g1 S3 K3 => ?_⟩
  obtain ⟨i, rfl⟩ : ∃ i : Nat, g = (i : Int) := ⟨g.toNat, by omega⟩
  have hi : i < ds.length := by omega
  have d3 : Drw a c H2 H3 := ⟨K3, S3⟩
  -- the list stands: it is no list of the source
  have hp3 : H3 p = some (.lst xs) := K3 p _ hp (free_ne S.some_a np) (free_ne S.some_c np)
  obtain ⟨v, ev, rv⟩ := ra.get (i := i) (d := ds[i]) (List.getElem?_eq_getElem hi)
  exact ⟨p, xs, _, v, rfl, rfl, SqL.of hp3, atI_nat ev, k i hi v H3 (Rp.drw S2 d3 rv) ((Drw.of_same S s2).trans d3)⟩
end
theorem digit_tup {l : List DT} : digitB (.tup l) = false := rfl
theorem expr_op {h : Str} {l : List DT} {p m : Nat} (hn : h ≠ "name") (hp : partsB h = some p) : exprB (m + 1) (.tup (.str h :: l)) = (decide (l.length = p) && (l.map (exprB m)).all id) := by
  rw [expr_some (ne_head hn) hp, digit_tup, Bool.false_or]
  have e : (lenB (.tup (.str h :: l)) == 1 + p) = decide (l.length = p) := by
    show (l.length + 1 == 1 + p) = _
    by_cases c : l.length = p
    · rw [c, decide_eq_true rfl, Nat.add_comm]
      exact beq_self_eq_true _
    · rw [decide_eq_false c]
      exact beq_eq_false_iff_ne.mpr (by omega)
  rw [e]
  rfl
theorem expr_op0 {h : Str} {l : List DT} (hn : h ≠ "name") : exprB 0 (.tup (.str h :: l)) = false := by rw [expr_zero (ne_head hn)]; rfl
theorem names_op {h : Str} {l : List DT} {m : Nat} (hn : h ≠ "name") : namesX (m + 1) (.tup (.str h :: l)) = (l.map (namesX m)).flatten := by
  unfold namesX
  rw [if_neg (show ¬ digitB (.tup (.str h :: l)) = true from (by intro z; cases z)), if_neg (ne_head hn)]
  rfl
theorem inV_strs (s : Str) : ∀ l : List Str, inV (.str s) (l.map V.str) = decide (s ∈ l)
  | [] => rfl
  | x :: l => by
    have ih := inV_strs s l
    unfold inV at ih ⊢
    rw [List.map_cons, List.any_cons, ih]
    show (x == s || decide (s ∈ l)) = _
    by_cases e : x = s
    · subst e
      simp
    · have e2 : ¬ s = x := fun z => e z.symm
      simp [e, e2]
def keptS : List Str := ["set", "tell", "hear", "wait", "on", "open", "or", "if", "else", "repeat", "leave", "home", "fail", "end", "plus", "minus", "same", "less", "not", "routine", "own", "over"]
theorem keptV_eq : keptV = keptS.map V.str := rfl
abbrev wordsS : Str := "set tell hear wait on open or if else repeat leave home fail end plus minus same less not routine own over"
theorem kept_in : Txt.split wordsS " " = keptS := by decide +kernel
/-- letters from a to z alone -/
def Low (z : Str) : Prop := ∀ c ∈ z.cps.toList, 97 ≤ c ∧ c ≤ 122
theorem sign_low {c : Nat} (h : 97 ≤ c ∧ c ≤ 122) : signB c = true := by
  unfold signB
  have h1 : ¬ [c] < [97] := fun z => by
    cases z with
    | rel h => omega
    | cons h => cases h
  have h2 : ¬ [122] < [c] := fun z => by
    cases z with
    | rel h => omega
    | cons h => cases h
  rw [decide_eq_false h1, decide_eq_false h2]
  rfl
theorem name_low {z : Str} (h : Low z) (h1 : 1 ≤ z.length) (hk : z ∉ keptS) : nameB (.str z) = decide (z.length ≤ 8) := by
  show (decide (1 ≤ z.length) && decide (z.length ≤ 8) && (!inV (.str z) keptV && (z.cps.toList.map signB).all id)) = _
  rw [decide_eq_true h1, keptV_eq, inV_strs, decide_eq_false hk, Bool.true_and]
  have e : (z.cps.toList.map signB).all id = true := List.all_eq_true.mpr fun b hb => by
    obtain ⟨c, hc, rfl⟩ := List.mem_map.mp hb
    exact sign_low (h c hc)
  rw [e, Bool.not_false, Bool.true_and, Bool.and_true]
theorem low_cat {y z : Str} (h1 : Low y) (h2 : Low z) : Low (y ++ z) := fun c hc => by
  have e : (y ++ z).cps.toList = y.cps.toList ++ z.cps.toList := by
    show (y.cps ++ z.cps).toList = _
    rw [Array.toList_append]
  rw [e] at hc
  rcases List.mem_append.mp hc with hc | hc
  · exact h1 c hc
  · exact h2 c hc
theorem len_cat (y z : Str) : (y ++ z).length = y.length + z.length := by
  show (y.cps ++ z.cps).size = _
  rw [Array.size_append]
  rfl
abbrev abcS : Str := "abcdefghijklmnopqrstuvwxyz"
theorem abc_at : ∀ i, i < 26 → ∃ c, abcS.cps.toList[i]? = some c ∧ c = 97 + i := by decide +kernel
theorem low_one {c : Nat} (h : 97 ≤ c ∧ c ≤ 122) : Low ⟨#[c]⟩ := fun d hd => by
  rcases List.mem_cons.mp (show d ∈ [c] from hd) with rfl | hd
  · exact h
  · cases hd
end Oh
namespace Oh
open PySem PySem.Spec PyProof.Rows L2 PpSet
def spName : Sp := fun vs H Q _ => ∃ a c, vs = [.ref a] ∧ Src H a c ∧ ∀ (s : Str) H', nameB (.str s) = true → Drw a c H H' → Q (.str s) H'
theorem kept_q : ∀ s ∈ keptS, s ++ "q" ∉ keptS ∧ s.length ≤ 7 ∧ 1 ≤ s.length := by decide +kernel
theorem low_q : Low "q" := by unfold Low; decide +kernel
section
variable {P : Program} {w : World} {K : PySem.W.Frag} {mg : Str → Option Value} {base : Heap}
abbrev nNm : List Str := ["_law_source_here", "_law_size", "_law_name_here", "_law_k", "_law_words"]
theorem scName : FnScope nNm ["_law_source_here"] (defScope lName) := ⟨rfl, rfl, rfl, by decide +kernel, rfl, by decide +kernel, by decide +kernel⟩
theorem ok_name {f fD : Addr} {fd fdD : FuncData} (F : Fun K "_law_name" "_law_name" lName f fd) (T : TxtO mg)
    (GD : FnOk P w K mg base CX0 2 fD fdD ["_law_source_here", "_law_many"] spDraw) (kD : PySem.W.keepIn K (.ref fD) = true) (bD : Binds K fdD ["_law_source_here", "_law_many"] []) (mD : mg "_law_draw" = some (.ref fD)) :
    FnOk P w K mg base CX0 3 f fd ["_law_source_here"] spName := by
  refine F.ok scName (fun vs H Q E h => ?_) (fun cdv A outer s H vs Q E hr h => ?_)
  · obtain ⟨a, c, rfl, _⟩ := h
    rfl
  · obtain ⟨a, c, rfl, S, k⟩ := h
    have hr2 : Room 2 _ := hr.mono (by decide)
    refine ⟨_, (pss_cons (ps_set (i := 1) scName.nd rfl (Or.inl rfl) (pe_op op_add pe_int (pe_op op_mul (pe_call GD hr2 (by rfl) mD kD bD .nil pass0 (pa_cons (pv 0) (pa_cons pe_int pa_nil))) (pe_call GD hr2 (by rfl) mD kD bD .nil pass0 (pa_cons (pv 0) (pa_cons pe_int pa_nil))))))
      (pss_cons (ps_set (i := 2) scName.nd rfl (Or.inl rfl) pe_str)
      (pss_cons (ps_for PassesOwn.never rfl (pi_range1 (by rfl) T.range (pa_cons (pv 1) pa_nil)) (pg_name (i := 3) scName.nd rfl (Or.inl rfl))
        (pss_one (ps_set (i := 2) scName.nd rfl (Or.inl rfl) (pe_op op_add_str (pv 2) (pe_ix ix_str pe_str (pe_call GD hr2 (by rfl) mD kD bD .nil pass0 (pa_cons (pv 0) (pa_cons pe_int pa_nil))) (fun _ _ => rfl))))))
      (pss_cons (ps_set (i := 4) scName.nd rfl (Or.inl rfl) pe_str)
      (pss_cons (ps_if (pt_cmpR op_in_seq (pv 2) (pe_split (pv 4) pe_str) (by rfl))
        (pss_one (ps_set (i := 2) scName.nd rfl (Or.inl rfl) (pe_op op_add_str (pv 2) pe_str))) pss_nil)
      (pss_one (ps_ret (pv 2)))))))), ?_⟩
    refine ⟨_, rfl, a, c, 2, rfl, S, by decide, log2_small (by decide) (by decide), fun g H1 g0 g1 S1 K1 => ?_⟩
    refine ⟨_, rfl, a, c, 8, rfl, S1, by decide, log2_small (by decide) (by decide), fun e H2 e0 e1 S2 K2 => ?_⟩
    have D2 : Drw a c H H2 := ⟨K1.trans K2, S2⟩
    obtain ⟨n, en⟩ : ∃ n : Nat, (1 : Int) + g * e = (n : Int) := ⟨(1 + g * e).toNat, by
      have := Int.mul_nonneg g0 e0
      omega⟩
    have hn : 1 ≤ n ∧ n ≤ 8 := by
      rcases (show g = 0 ∨ g = 1 by omega) with rfl | rfl
      · omega
      · rw [Int.one_mul] at en; omega
    have ge : 0 ≤ g * e ∧ g * e ≤ 7 := by
      rcases (show g = 0 ∨ g = 1 by omega) with rfl | rfl
      · omega
      · rw [Int.one_mul]; omega
    refine ⟨_, _, rfl, rfl, ?_, _, _, rfl, rfl, ?_⟩
    · show CMul g e
      exact .inl ⟨by omega, by omega⟩
    dsimp only [tSeq, tAsg, gName, tNext]
    rw [en]
    refine ⟨_, rfl, n, rfl, by omega, by omega, for_range (lo := 0) (n := n) (fun i σ H' => ∃ (z : Str) (x3 x4 : Option V), σ = [some (.ref a), some (.int (n : Int)), some (.str z), x3, x4] ∧ Low z ∧ z.length = i ∧ Drw a c H H')
      ⟨_, _, _, rfl, by unfold Low; decide +kernel, by decide +kernel, D2⟩ ?_ ?_⟩
    · rintro i σ H3 hi ⟨z, x3, x4, rfl, lo, m1, D3⟩
      refine ⟨_, rfl, _, rfl, a, c, 26, rfl, D3.s, by decide, log2_small (by decide) (by decide), fun e H4 e0 e1 S4 K4 => ?_⟩
      obtain ⟨j, rfl⟩ : ∃ j : Nat, e = (j : Int) := ⟨e.toNat, by omega⟩
      obtain ⟨ch, h1, h2⟩ := abc_at j (by omega)
      refine ⟨_, _, _, rfl, rfl, by decide +kernel, atI_nat h1, z, ⟨#[ch]⟩, rfl, rfl, ?_, ?_⟩
      · exact Nat.le_of_lt (small1000 (by show z.length + 1 ≤ 1000; omega))
      · refine ⟨_, _, _, rfl, low_cat lo (low_one (by omega)), ?_, D3.trans ⟨K4, S4⟩⟩
        rw [len_cat]; show z.length + 1 = i + 1; omega
    · rintro σ H3 ⟨z, x3, x4, rfl, lo, m1, D3⟩
      refine ⟨_, rfl, _, rfl, ⟨_, rfl⟩, wordsS, " ", rfl, rfl, by decide +kernel, by decide +kernel, fun p np => ⟨p, _, rfl, .inl (SqL.of upd_same), rfl, by rw [kept_in]; decide +kernel, _, rfl, ?_⟩⟩
      have D4 := D3.trans (Drw.of_same D3.s (Same.new (o := .lst ((Txt.split wordsS " ").map V.str)) np))
      generalize upd H3 p (.lst ((Txt.split wordsS " ").map V.str)) = H4 at D4 ⊢
      show if inV (V.str z) ((Txt.split wordsS " ").map V.str) = true then _ else _
      rw [kept_in, inV_strs]
      refine ite2 (fun hk => ?_) (fun hk => ?_)
      · have hk : z ∈ keptS := of_decide_eq_true hk
        obtain ⟨q1, q2, q3⟩ := kept_q z hk
        refine ⟨_, rfl, z, "q", rfl, rfl, Nat.le_of_lt (small1000 (by rw [m1]; show n + 1 ≤ 1000; omega)), ?_⟩
        refine ⟨_, rfl, k (z ++ "q") _ ?_ D4⟩
        rw [name_low (low_cat lo low_q) (by rw [len_cat]; show 1 ≤ z.length + 1; omega) q1, len_cat]
        exact decide_eq_true (show z.length + 1 ≤ 8 by omega)
      · have hk : z ∉ keptS := fun m => hk (decide_eq_true m)
        refine ⟨_, rfl, k z _ ?_ D4⟩
        rw [name_low lo (by omega) hk]
        exact decide_eq_true (by omega)
end
end Oh
namespace Oh
open PySem PySem.Spec PyProof.Rows L2 PpSet
/-- names and ports to choose among -/
structure MenuAt (H : Hp) (p l1 l2 : Addr) (S1 S2 : List Str) : Prop where
  ep : H p = some (.tup [.ref l1, .ref l2])
  e1 : H l1 = some (.lst (S1.map V.str))
  e2 : H l2 = some (.lst (S2.map V.str))
  n1 : ∀ s ∈ S1, nameB (.str s) = true
  n2 : ∀ s ∈ S2, nameB (.str s) = true
  a1 : 1 ≤ S1.length
  a2 : 1 ≤ S2.length
  b1 : S1.length ≤ 3
  b2 : S2.length ≤ 5
/-- a list of names is none of the source's -/
theorem Src.ne_strs {H : Hp} {a c l : Addr} {S1 : List Str} (S : Src H a c) (h : H l = some (.lst (S1.map V.str))) (h1 : 1 ≤ S1.length) : l ≠ a ∧ l ≠ c := by
  obtain ⟨_, ns, i, sm, k, x1, x2, _⟩ := S
  match S1, h1 with
  | s :: r, _ =>
    refine ⟨fun z => ?_, fun z => ?_⟩
    · subst z
      have := Option.some.inj (x1.symm.trans h)
      cases this
    · subst z
      have := Option.some.inj (x2.symm.trans h)
      cases ns with
      | nil => cases this
      | cons x y => cases this
theorem MenuAt.drw {H H' : Hp} {a c p l1 l2 : Addr} {S1 S2 : List Str} (M : MenuAt H p l1 l2 S1 S2) (S : Src H a c) (d : Drw a c H H') : MenuAt H' p l1 l2 S1 S2 :=
  ⟨d.at S M.ep (fun _ => nofun), d.k _ _ M.e1 (S.ne_strs M.e1 M.a1).1 (S.ne_strs M.e1 M.a1).2, d.k _ _ M.e2 (S.ne_strs M.e2 M.a2).1 (S.ne_strs M.e2 M.a2).2, M.n1, M.n2, M.a1, M.a2, M.b1, M.b2⟩
def spMenu : Sp := fun vs H Q _ => ∃ a c, vs = [.ref a] ∧ Src H a c ∧ ∀ p l1 l2 S1 S2 H', MenuAt H' p l1 l2 S1 S2 → S2.length ≤ 4 ∧ l1 ≠ l2 → Drw a c H H' → Q (.ref p) H'
section
variable {P : Program} {w : World} {K : PySem.W.Frag} {mg : Str → Option Value} {base : Heap}
abbrev nMe : List Str := ["_law_source_here", "_law_names", "_law_ports_here", "_law_k"]
theorem scMenu : FnScope nMe ["_law_source_here"] (defScope lMenu) := ⟨rfl, rfl, rfl, by decide +kernel, rfl, by decide +kernel, by decide +kernel⟩
theorem ok_menu {f fD fN : Addr} {fd fdD fdN : FuncData} (F : Fun K "_law_menu" "_law_menu" lMenu f fd) (T : TxtO mg)
    (GD : FnOk P w K mg base CX0 2 fD fdD ["_law_source_here", "_law_many"] spDraw) (kD : PySem.W.keepIn K (.ref fD) = true) (bD : Binds K fdD ["_law_source_here", "_law_many"] []) (mD : mg "_law_draw" = some (.ref fD))
    (GN : FnOk P w K mg base CX0 3 fN fdN ["_law_source_here"] spName) (kN : PySem.W.keepIn K (.ref fN) = true) (bN : Binds K fdN ["_law_source_here"] []) (mN : mg "_law_name" = some (.ref fN)) :
    FnOk P w K mg base CX0 4 f fd ["_law_source_here"] spMenu := by
  refine F.ok scMenu (fun vs H Q E h => ?_) (fun cdv A outer s H vs Q E hr h => ?_)
  · obtain ⟨a, c, rfl, _⟩ := h
    rfl
  · obtain ⟨a, c, rfl, S, k⟩ := h
    have hr2 : Room 2 _ := hr.mono (by decide)
    have hr3 : Room 3 _ := hr.mono (by decide)
    refine ⟨_, (pss_cons (ps_setLc (i := 1) (own := [("_law_k", 3)]) (g := gName 3) (tt := tYes) (te := tCall spName [] E0 (tCons (tVar 0) tNil)) rfl scMenu.nd rfl rfl (sw_true rfl rfl rfl (by decide +kernel)) (pi_range1 (by rfl) T.range (pa_cons (pe_op op_add pe_int (pe_call GD hr2 (by rfl) mD kD bD .nil pass0 (pa_cons (pv 0) (pa_cons pe_int pa_nil)))) pa_nil)) (blkOk_by (N := nMe) (sc := defScope lMenu) (by decide +kernel)) (fun _ _ _ _ _ => pg_name (i := 3) scMenu.nd rfl (Or.inl rfl)) (fun _ _ _ _ _ => pts_nil) (fun _ _ _ _ _ => by exact (pe_call GN hr3 (by rfl) mN kN bN .nil pass0 (pa_cons (pv 0) pa_nil))))
      (pss_cons (ps_setLc (i := 2) (own := [("_law_k", 3)]) (g := gName 3) (tt := tYes) (te := tCall spName [] E0 (tCons (tVar 0) tNil)) rfl scMenu.nd rfl rfl (sw_true rfl rfl rfl (by decide +kernel)) (pi_range1 (by rfl) T.range (pa_cons (pe_op op_add pe_int (pe_call GD hr2 (by rfl) mD kD bD .nil pass0 (pa_cons (pv 0) (pa_cons pe_int pa_nil)))) pa_nil)) (blkOk_by (N := nMe) (sc := defScope lMenu) (by decide +kernel)) (fun _ _ _ _ _ => pg_name (i := 3) scMenu.nd rfl (Or.inl rfl)) (fun _ _ _ _ _ => pts_nil) (fun _ _ _ _ _ => by exact (pe_call GN hr3 (by rfl) mN kN bN .nil pass0 (pa_cons (pv 0) pa_nil))))
      (pss_one (ps_ret (pe_tup (pa_cons (pv 1) (pa_cons (pv 2) pa_nil))))))), ?_⟩
    refine ⟨_, rfl, a, c, 3, rfl, S, by decide, log2_small (by decide) (by decide), fun g H1 g0 g1 S1 K1 => ?_⟩
    have D1 : Drw a c H H1 := ⟨K1, S1⟩
    obtain ⟨n, en⟩ : ∃ n : Nat, (1 : Int) + g = (n : Int) := ⟨(1 + g).toNat, by omega⟩
    refine ⟨_, _, rfl, rfl, (n : Int), congrArg (fun z => [V.int z]) en, by omega, by omega, fun D hD => lc_range (lo := 0) (n := n) (fun i H' => ∃ l : List Str, H' D = some (.lst (l.map V.str)) ∧ l.length = i ∧ (∀ s ∈ l, nameB (.str s) = true) ∧ Drw a c H1 H')
      ⟨[], upd_same, rfl, fun s hs => (by cases hs), Drw.of_same S1 (Same.new hD)⟩ ?_ ?_⟩
    · rintro i H2 hi ⟨l, h1, h2, h3, h4⟩
      have Da : D ≠ a := free_ne S1.some_a hD
      have Dc : D ≠ c := free_ne S1.some_c hD
      refine ⟨rfl, _, rfl, a, c, rfl, h4.s, fun s H3 hs d3 => ?_⟩
      have hD3 : H3 D = some (.lst (l.map V.str)) := d3.k D _ h1 Da Dc
      refine ⟨l.map V.str, hD3, small1000 (by rw [List.length_map]; omega), l ++ [s], ?_, by rw [List.length_append, h2]; rfl, fun z hz => ?_, fun b o hb na nc => ?_, d3.s.of_ne Da.symm Dc.symm⟩
      · rw [upd_same, List.map_append]
        rfl
      · rcases List.mem_append.mp hz with hz | hz
        · exact h3 z hz
        · rw [List.mem_singleton.mp hz]
          exact hs
      · rw [upd_ne (ne_of_none hb hD)]
        exact d3.k b o (h4.k b o hb na nc) na nc
    · rintro H2 ⟨l, h1, h2, h3, h4⟩
      have Da : D ≠ a := free_ne S1.some_a hD
      have Dc : D ≠ c := free_ne S1.some_c hD
      refine ⟨_, rfl, a, c, 4, rfl, h4.s, by decide, log2_small (by decide) (by decide), fun g' H3 g0' g1' S3 K3 => ?_⟩
      have h1' : H3 D = some (.lst (l.map V.str)) := K3 D _ h1 Da Dc
      obtain ⟨n', en'⟩ : ∃ n : Nat, (1 : Int) + g' = (n : Int) := ⟨(1 + g').toNat, by omega⟩
      refine ⟨_, _, rfl, rfl, (n' : Int), congrArg (fun z => [V.int z]) en', by omega, by omega, fun D' hD' => lc_range (lo := 0) (n := n') (fun i H' => ∃ l : List Str, H' D' = some (.lst (l.map V.str)) ∧ l.length = i ∧ (∀ s ∈ l, nameB (.str s) = true) ∧ Drw a c H3 H')
        ⟨[], upd_same, rfl, fun s hs => (by cases hs), Drw.of_same S3 (Same.new hD')⟩ ?_ ?_⟩
      · rintro i H4 hi ⟨l', y1, y2, y3, y4⟩
        have Da' : D' ≠ a := free_ne S3.some_a hD'
        have Dc' : D' ≠ c := free_ne S3.some_c hD'
        refine ⟨rfl, _, rfl, a, c, rfl, y4.s, fun s H5 hs d5 => ?_⟩
        have hD5 : H5 D' = some (.lst (l'.map V.str)) := d5.k D' _ y1 Da' Dc'
        refine ⟨l'.map V.str, hD5, small1000 (by rw [List.length_map]; omega), l' ++ [s], ?_, by rw [List.length_append, y2]; rfl, fun z hz => ?_, fun b o hb na nc => ?_, d5.s.of_ne Da'.symm Dc'.symm⟩
        · rw [upd_same, List.map_append]
          rfl
        · rcases List.mem_append.mp hz with hz | hz
          · exact y3 z hz
          · rw [List.mem_singleton.mp hz]
            exact hs
        · rw [upd_ne (ne_of_none hb hD')]
          exact d5.k b o (y4.k b o hb na nc) na nc
      · rintro H4 ⟨l', y1, y2, y3, y4⟩
        have h1'' : H4 D = some (.lst (l.map V.str)) := y4.k D _ h1' Da Dc
        refine ⟨_, rfl, _, rfl, by show 2 ≤ sizeLine; decide, fun p np => ?_⟩
        have sn : Same H4 (upd H4 p (.tup [.ref D, .ref D'])) := Same.new np
        refine k p D D' l l' _ ⟨upd_same, sn _ _ h1'', sn _ _ y1, h3, y3, by omega, by omega, by omega, by omega⟩ ⟨by omega, fun z => by rw [z, hD'] at h1'; cases h1'⟩ ?_
        exact D1.trans (h4.trans (Drw.trans ⟨K3, S3⟩ (y4.trans (Drw.of_same y4.s sn))))
end
end Oh
namespace Oh
open PySem PySem.Spec PyProof.Rows L2 PpSet
/-- n levels above the first at most, with these names -/
structure ExprOk (n : Nat) (S1 : List Str) (d : DT) : Prop where
  ex : ∀ m, n ≤ m → exprB m d = true
  nm : ∀ m, n ≤ m → ∀ k ∈ namesX m d, k ∈ S1
theorem exo_up {n k : Nat} {S1 : List Str} {d : DT} (h : ExprOk n S1 d) (hk : n ≤ k) : ExprOk k S1 d := ⟨fun m z => h.ex m (by omega), fun m z => h.nm m (by omega)⟩
theorem exo_digit {n : Nat} {S1 : List Str} {i : Int} (h0 : 0 ≤ i) (h1 : i ≤ 9) : ExprOk n S1 (.int i) := ⟨fun _ _ => expr_digit (digit_int h0 h1), fun _ _ => mem0 (namesX_digit (digit_int h0 h1))⟩
theorem exo_name {n : Nat} {S1 : List Str} {s : Str} (h : nameB (.str s) = true) (m : s ∈ S1) : ExprOk n S1 (nameD s) := ⟨fun _ _ => expr_nameD h, fun _ _ => by rw [namesX_name]; exact mem1 m⟩
theorem exo_op {n : Nat} {S1 : List Str} {h : Str} {l : List DT} {p : Nat} (hn : h ≠ "name") (hp : partsB h = some p) (lp : l.length = p) (hl : ∀ x ∈ l, ExprOk n S1 x) : ExprOk (n + 1) S1 (.tup (.str h :: l)) := by
  refine ⟨fun m hm => ?_, fun m hm k hk => ?_⟩
  · match m, hm with
    | m + 1, hm =>
      rw [expr_op hn hp, decide_eq_true lp, Bool.true_and, List.all_eq_true]
      intro b hb
      obtain ⟨x, hx, rfl⟩ := List.mem_map.mp hb
      exact (hl x hx).ex m (by omega)
  · match m, hm with
    | m + 1, hm =>
      rw [names_op hn] at hk
      obtain ⟨ks, hks, hk⟩ := List.mem_flatten.mp hk
      obtain ⟨x, hx, rfl⟩ := List.mem_map.mp hks
      exact (hl x hx).nm m (by omega) k hk
def spExprL (K : PySem.W.Frag) (n : Nat) : Sp := fun vs H Q _ => ∃ a c l1 S1, vs = [.ref a, .ref l1, .int ((n + 1 : Nat) : Int)] ∧ Src H a c ∧ H l1 = some (.lst (S1.map V.str)) ∧ (∀ s ∈ S1, nameB (.str s) = true) ∧ 1 ≤ S1.length ∧ S1.length ≤ 3 ∧
  ∀ v d H', Rp K H' v d → ExprOk n S1 d → Drw a c H H' → Q v H'
def spExprLP (K : PySem.W.Frag) : Nat → Sp
  | 0 => fun _ _ _ _ => False
  | n + 1 => spExprL K n
theorem name_small {s : Str} (h : nameB (.str s) = true) : s.length ≤ 1000 := by
  have h : (decide (1 ≤ s.length) && decide (s.length ≤ 8) && _) = true := h
  have := of_decide_eq_true (Bool.and_eq_true_iff.mp (Bool.and_eq_true_iff.mp h).1).2
  omega
section
variable {P : Program} {w : World} {K : PySem.W.Frag} {mg : Str → Option Value} {base : Heap}
abbrev nEl : List Str := ["_law_source_here", "_law_names", "_law_deep", "_law_kind", "_law_first"]
theorem scExpression : FnScope nEl ["_law_source_here", "_law_names", "_law_deep"] (defScope lExpression) := ⟨rfl, rfl, rfl, by decide +kernel, rfl, by decide +kernel, by decide +kernel⟩
theorem exprL_step {n : Nat} {f fD : Addr} {fd fdD : FuncData} (F : Fun K "_law_expression" "_law_expression" lExpression f fd) (T : TxtO mg)
    (GD : FnOk P w K mg base CX0 2 fD fdD ["_law_source_here", "_law_many"] spDraw) (kD : PySem.W.keepIn K (.ref fD) = true) (bD : Binds K fdD ["_law_source_here", "_law_many"] []) (mD : mg "_law_draw" = some (.ref fD))
    (bE : Binds K fd ["_law_source_here", "_law_names", "_law_deep"] []) (mE : mg "_law_expression" = some (.ref f))
    (GE : FnOk P w K mg base CX0 (n + 2) f fd ["_law_source_here", "_law_names", "_law_deep"] (spExprLP K n)) :
    FnOk P w K mg base CX0 (n + 3) f fd ["_law_source_here", "_law_names", "_law_deep"] (spExprL K n) := by
  have kE := F.kp
  refine F.ok scExpression (fun vs H Q E h => ?_) (fun cdv A outer s H vs Q E hr h => ?_)
  · obtain ⟨a, c, l1, S1, rfl, _⟩ := h
    rfl
  · obtain ⟨a, c, l1, S1, rfl, S, hl, hn, h1, h3, k⟩ := h
    have hr2 : Room 2 _ := hr.mono (by omega)
    refine ⟨_, (pss_cons (ps_set (i := 3) scExpression.nd rfl (Or.inl rfl) (pe_call GD hr2 (by rfl) mD kD bD .nil pass0 (pa_cons (pv 0) (pa_cons pe_int pa_nil))))
      (pss_cons (ps_if (pw_or (pt_cmpR op_lt (pv 2) pe_int (nomark _)) (pw_or1 (pt_cmpR op_lt (pv 3) pe_int (nomark _)))).pt
        (pss_cons (ps_if (pt_cmpR op_eq (pe_op op_mod (pv 3) pe_int) pe_int (nomark _))
          (pss_one (ps_ret (pe_call GD hr2 (by rfl) mD kD bD .nil pass0 (pa_cons (pv 0) (pa_cons pe_int pa_nil))))) pss_nil)
        (pss_one (ps_ret (pe_tup (pa_cons pe_str (pa_cons (pe_ix ix_list (pv 1) (pe_call GD hr2 (by rfl) mD kD bD .nil pass0 (pa_cons (pv 0) (pa_cons (pe_callB call_len_seq (by rfl) T.len boot_len (pa_cons (pv 1) pa_nil)) pa_nil))) (fun _ _ => rfl)) pa_nil)))))) pss_nil)
      (pss_cons (ps_if (pt_cmpR op_eq (pv 3) pe_int (nomark _))
        (pss_one (ps_ret (pe_tup (pa_cons pe_str (pa_cons (pe_call GE hr (by rfl) mE kE bE .nil pass0 (pa_cons (pv 0) (pa_cons (pv 1) (pa_cons (pe_op op_sub (pv 2) pe_int) pa_nil)))) pa_nil))))) pss_nil)
      (pss_cons (ps_set (i := 4) scExpression.nd rfl (Or.inl rfl) (pe_call GE hr (by rfl) mE kE bE .nil pass0 (pa_cons (pv 0) (pa_cons (pv 1) (pa_cons (pe_op op_sub (pv 2) pe_int) pa_nil)))))
      (pss_one (ps_ret (pe_tup (pa_cons (pe_ix ix_list (pe_lst (pa_cons pe_str (pa_cons pe_str (pa_cons pe_str (pa_cons pe_str pa_nil))))) (pe_op op_sub (pv 3) pe_int) (fun _ _ => rfl)) (pa_cons (pv 4) (pa_cons (pe_call GE hr (by rfl) mE kE bE .nil pass0 (pa_cons (pv 0) (pa_cons (pv 1) (pa_cons (pe_op op_sub (pv 2) pe_int) pa_nil)))) pa_nil)))))))))), ?_⟩
    refine ⟨_, rfl, a, c, 8, rfl, S, by decide, log2_small (by decide) (by decide), fun g H1 g0 g1 S1' K1 => ?_⟩
    have D1 : Drw a c H H1 := ⟨K1, S1'⟩
    obtain ⟨na, nc⟩ := S.ne_strs hl h1
    have hl1 : H1 l1 = some (.lst (S1.map V.str)) := D1.k _ _ hl na nc
    refine ⟨_, rfl, _, _, rfl, rfl, _, rfl, ite2 (fun _ => iteT ?_) (fun n1 => ⟨_, rfl, _, _, rfl, rfl, _, rfl, ite2 (fun _ => ?_) (fun n2 => ?_)⟩)⟩
    rotate_right
    · have hn1 : 1 ≤ n := by
        have : ¬ ((n + 1 : Nat) : Int) < 2 := fun z => n1 (decide_eq_true z)
        omega
      have hg : 3 ≤ g := by
        have : ¬ g < 3 := fun z => n2 (decide_eq_true z)
        omega
      obtain ⟨n', rfl⟩ : ∃ n', n = n' + 1 := ⟨n - 1, by omega⟩
      have em : ((n' + 1 + 1 : Nat) : Int) - 1 = ((n' + 1 : Nat) : Int) := by omega
      refine ⟨_, rfl, rfl, _, rfl, ite2 (fun _ => ?_) (fun n3 => ?_)⟩
      · refine ⟨_, rfl, _, rfl, _, rfl, _, _, rfl, rfl, a, c, l1, S1, ?_, S1', hl1, hn, h1, h3, fun v d H2 r2 o2 D2 => ?_⟩
        · exact congrArg (fun z => [V.ref a, V.ref l1, V.int z]) em
        refine ⟨by show 2 ≤ sizeLine; decide, fun p np => ?_⟩
        exact k _ (.tup [.str "not", d]) _ (.tup upd_same (.cons (.str (by decide +kernel)) (.cons (r2.keep (Same.new np)) .nil))) (exo_op (p := 1) (by decide) (by decide) rfl fun x hx => by rw [List.mem_singleton.mp hx]; exact o2) (D1.trans (D2.trans (Drw.of_same D2.s (Same.new np))))
      · have hg4 : ¬ g = 3 := fun z => n3 (by rw [z]; exact decide_eq_true rfl)
        refine ⟨_, rfl, _, rfl, _, rfl, _, _, rfl, rfl, a, c, l1, S1, ?_, S1', hl1, hn, h1, h3, fun v d H2 r2 o2 D2 => ?_⟩
        · exact congrArg (fun z => [V.ref a, V.ref l1, V.int z]) em
        dsimp only [gName, tRet, tTup, tOp, tCons]
        refine EvA.lst (K := K) (ds := [.str "plus", .str "minus", .str "same", .str "less"]) (eva_cons ev_str (eva_cons ev_str (eva_cons ev_str (eva_cons ev_str eva_nil)))) (fun q xs H3 s3 nq hq ra => ?_)
        obtain ⟨i, ei⟩ : ∃ i : Nat, g - 4 = (i : Int) := ⟨(g - 4).toNat, by omega⟩
        have hi : i < 4 := by omega
        refine ⟨_, rfl, _, _, rfl, rfl, ?_⟩
        obtain ⟨o, ho, po, no⟩ : ∃ o : Str, [DT.str "plus", .str "minus", .str "same", .str "less"][i]? = some (.str o) ∧ partsB o = some 2 ∧ o ≠ "name" := by
          match i, hi with
          | 0, _ => exact ⟨_, rfl, by decide, by decide⟩
          | 1, _ => exact ⟨_, rfl, by decide, by decide⟩
          | 2, _ => exact ⟨_, rfl, by decide, by decide⟩
          | 3, _ => exact ⟨_, rfl, by decide, by decide⟩
        obtain ⟨v0, ev, rv⟩ := ra.get ho
        refine ⟨q, xs, (i : Int), v0, rfl, congrArg V.int ei, SqL.of hq, atI_nat ev, ?_⟩
        have D3 := D2.trans (Drw.of_same D2.s s3)
        obtain ⟨na2, nc2⟩ := S1'.ne_strs hl1 h1
        refine ⟨_, rfl, _, rfl, _, rfl, _, rfl, _, _, rfl, rfl, a, c, l1, S1, ?_, D3.s, D3.k _ _ hl1 na2 nc2, hn, h1, h3, fun v2 d2 H4 r4 o4 D4 => ?_⟩
        · exact congrArg (fun z => [V.ref a, V.ref l1, V.int z]) em
        refine ⟨by show 3 ≤ sizeLine; decide, fun p np => ?_⟩
        have s4 : Same H4 (upd H4 p (.tup [v0, v, v2])) := Same.new np
        exact k _ (.tup [.str o, d, d2]) _ (.tup upd_same (.cons ((Rp.drw D3.s D4 rv).keep s4) (.cons ((Rp.drw D3.s D4 (r2.keep s3)).keep s4) (.cons (r4.keep s4) .nil)))) (exo_op no po rfl fun x hx => by
          rcases List.mem_cons.mp hx with rfl | hx
          · exact o2
          · rw [List.mem_singleton.mp hx]
            exact o4) (D1.trans (D3.trans (D4.trans (Drw.of_same D4.s s4))))
    all_goals
      refine ⟨_, rfl, _, _, rfl, rfl, by show (0 : Int) < 2; decide, rfl, _, rfl, ite2 (fun _ => ?_) (fun _ => ?_)⟩
      · exact ⟨_, rfl, a, c, 10, rfl, S1', by decide, log2_small (by decide) (by decide), fun e H2 e0 e1 S2 K2 => k _ _ H2 (.int _) (exo_digit e0 (by omega)) (D1.trans ⟨K2, S2⟩)⟩
      · refine ⟨_, rfl, _, rfl, _, rfl, l1, _, rfl, .inl (SqL.of hl1), a, c, _, rfl, S1', ?_, ?_, fun e H2 e0 e1 S2 K2 => ?_⟩
        · rw [List.length_map]; omega
        · rw [List.length_map]; exact log2_small (by omega) (by omega)
        · rw [List.length_map] at e1
          obtain ⟨i, rfl⟩ : ∃ i : Nat, e = (i : Int) := ⟨e.toNat, by omega⟩
          have hi : i < S1.length := by omega
          have hl2 : H2 l1 = some (.lst (S1.map V.str)) := K2 _ _ hl1 (S1'.ne_strs hl1 h1).1 (S1'.ne_strs hl1 h1).2
          refine ⟨l1, _, _, .str S1[i], rfl, rfl, SqL.of hl2, atI_nat (by rw [List.getElem?_map, List.getElem?_eq_getElem hi]; rfl), by show 2 ≤ sizeLine; decide, fun p np => ?_⟩
          have nm := hn _ (List.getElem_mem hi)
          exact k _ (nameD S1[i]) _ (.tup upd_same (.cons (.str (by decide +kernel)) (.cons (.str (name_small nm)) .nil))) (exo_name nm (List.getElem_mem hi)) (D1.trans (Drw.trans ⟨K2, S2⟩ (Drw.of_same S2 (Same.new np))))
theorem ok_exprL {f fD : Addr} {fd fdD : FuncData} (F : Fun K "_law_expression" "_law_expression" lExpression f fd) (T : TxtO mg)
    (GD : FnOk P w K mg base CX0 2 fD fdD ["_law_source_here", "_law_many"] spDraw) (kD : PySem.W.keepIn K (.ref fD) = true) (bD : Binds K fdD ["_law_source_here", "_law_many"] []) (mD : mg "_law_draw" = some (.ref fD))
    (bE : Binds K fd ["_law_source_here", "_law_names", "_law_deep"] []) (mE : mg "_law_expression" = some (.ref f)) : ∀ n, FnOk P w K mg base CX0 (n + 3) f fd ["_law_source_here", "_law_names", "_law_deep"] (spExprL K n)
  | 0 => exprL_step F T GD kD bD mD bE mE never_ok
  | n + 1 => exprL_step F T GD kD bD mD bE mE (ok_exprL F T GD kD bD mD bE mE n)
end
end Oh
namespace Oh
open PySem PySem.Spec PyProof.Rows L2 PpSet
section
variable {P : Program} {w : World} {K : PySem.W.Frag} {mg : Str → Option Value} {base : Heap}
abbrev nPt : List Str := ["_law_statement_here", "_law_row"]
theorem scParts : FnScope nPt ["_law_statement_here"] (defScope lParts) := ⟨rfl, rfl, rfl, by decide +kernel, rfl, by decide +kernel, by decide +kernel⟩
theorem ok_parts {f : Addr} {fd : FuncData} (F : Fun K "_law_parts" "_law_parts" lParts f fd) (T : TxtI mg) : FnOk P w K mg base CX0 1 f fd ["_law_statement_here"] (spBlocks K) := by
  refine F.ok scParts (fun vs H Q E h => ?_) (fun cdv A outer s H vs Q E hr h => ?_)
  · obtain ⟨v, d, rfl, _⟩ := h
    rfl
  · obtain ⟨v, d, rfl, r, hs, k⟩ := h
    obtain ⟨g, l, hk, hg, el⟩ := stmt_inv hs
    obtain ⟨p, xs, rfl, hp, ra⟩ := (el ▸ r : Rp K H v (.tup (.str (headB d) :: l))).tup_inv
    have hl := ra.len
    have ll := len_of el
    obtain ⟨v0, x0, r0⟩ := ra.get (i := 0) rfl
    cases r0
    refine ⟨_, (pss_cons (ps_if (pt_cmpR op_eq (pe_ix ix_tup (pv 0) pe_int (fun _ _ => rfl)) pe_str (nomark _))
        (pss_one (ps_ret (pe_lc (own := [("_law_row", 1)]) (g := gName 1) (tt := tYes) (te := tOp (rIxT K) (tVar 1) (tC (.int 2))) rfl scParts.nd (pi_tup (pe_ix ix_tup (pv 0) pe_int (fun _ _ => rfl))) (blkOk_by (N := nPt) (sc := defScope lParts) (by decide +kernel)) (fun _ _ _ _ _ => pg_name (i := 1) scParts.nd rfl (Or.inl rfl)) (fun _ _ _ _ _ => pts_nil) (fun _ _ _ _ _ => pe_ix ix_tup (pv 1) pe_int (fun _ _ => rfl))))) pss_nil)
      (pss_cons (ps_if (pt_cmpR op_eq (pe_ix ix_tup (pv 0) pe_int (fun _ _ => rfl)) pe_str (nomark _))
        (pss_one (ps_ret (pe_callTy call_list_of (by rfl) T.list bb_list (pa_cons (pe_ix ix_tup (pv 0) pe_int (fun _ _ => rfl)) pa_nil)))) pss_nil)
      (pss_cons (ps_if (pt_cmpR op_eq (pe_ix ix_tup (pv 0) pe_int (fun _ _ => rfl)) pe_str (nomark _))
        (pss_one (ps_ret (pe_lst (pa_cons (pe_ix ix_tup (pv 0) pe_int (fun _ _ => rfl)) (pa_cons (pe_ix ix_tup (pv 0) pe_int (fun _ _ => rfl)) pa_nil))))) pss_nil)
      (pss_cons (ps_if (pt_cmpR op_eq (pe_ix ix_tup (pv 0) pe_int (fun _ _ => rfl)) pe_str (nomark _))
        (pss_one (ps_ret (pe_lst (pa_cons (pe_ix ix_tup (pv 0) pe_int (fun _ _ => rfl)) pa_nil)))) pss_nil)
      (pss_one (ps_ret (pe_lst pa_nil))))))), ?_⟩
    have ge : ∀ {a b : Str}, a ≠ b → ¬ decide (V.str a = V.str b) = true := fun h z => h (V.str.inj (of_decide_eq_true z))
    refine ⟨_, rfl, p, _, _, _, rfl, rfl, SqT.of hp, at_of (j := 0) rfl x0, rfl, _, rfl, ?_⟩
    by_cases c4 : headB d = "wait"
    · refine ite2 (fun _ => ?_) (fun z => absurd (decide_eq_true (by rw [c4])) z)
      have hb : blocksB d = (listB (argB d 1)).map fun r => argB r 2 := by unfold blocksB; rw [if_neg (by rw [c4]; decide), if_neg (by rw [c4]; decide), if_neg (by rw [c4]; decide), if_pos c4]
      obtain ⟨z1, z2, z3, _⟩ := wait_len hs c4
      rw [hb] at k
      obtain ⟨v1, x1, r1⟩ := arg_at (i := 1) ra (by rw [← ll, z1]; decide)
      rw [← el] at r1
      obtain ⟨m, em, lm⟩ := choice_inv z2
      rw [em] at r1 k z3
      obtain ⟨q1, ys, rfl, hq1, rm⟩ := r1.tup_inv
      refine ⟨_, rfl, p, _, _, _, rfl, rfl, SqT.of hp, at_of (j := 1) rfl x1, q1, rfl, ⟨_, SqT.of hq1⟩, fun D nD => lc_it (walk_tup (xs := ys)) (fun i H' => Same H H' ∧ ∃ acc, H' D = some (.lst acc) ∧ acc.length = i ∧ RpAll K H acc ((m.take i).map fun r => argB r 2)) ⟨Same.new nD, [], upd_same, rfl, .nil⟩ (fun i H' _ z => SqT.of (z.1 _ _ hq1)) ?_ ?_⟩
      · rintro i x Ha Hb hi ⟨sa, acc, da, la, raa⟩ ⟨e, ex⟩
        subst e
        have li : i < m.length := by rw [← rm.len]; exact hi
        obtain ⟨vi, ev, rv⟩ := rm.get (i := i) (d := m[i]) (List.getElem?_eq_getElem li)
        obtain rfl := Option.some.inj (ev.symm.trans ex)
        obtain ⟨lr, er, l3⟩ := row_len (z3 _ (List.getElem_mem li))
        have rv' := rv
        rw [er] at rv'
        obtain ⟨pr, xr, rfl, hpr, rr⟩ := rv'.tup_inv
        obtain ⟨vz, evz, rz⟩ := arg_at (i := 2) rr (by omega)
        rw [← er] at rz
        have tk : (m.take (i + 1)).map (fun r => argB r 2) = (m.take i).map (fun r => argB r 2) ++ [argB m[i] 2] := by rw [List.take_add_one, List.getElem?_eq_getElem li, List.map_append]; rfl
        refine ⟨rfl, _, rfl, pr, _, _, _, rfl, rfl, SqT.of (sa _ _ hpr), at_of (j := 2) rfl evz, acc, da, ?_, fun b o e => ?_, acc ++ [vz], upd_same, by rw [List.length_append, la]; rfl, ?_⟩
        · rw [la]
          exact Nat.lt_of_lt_of_le li (Nat.le_trans lm (by decide))
        · rw [upd_ne (ne_of_none e nD)]
          exact sa _ _ e
        · rw [tk]
          exact raa.snoc rz
      · rintro H1 ⟨s1, acc, d1, la, raa⟩
        rw [show m.take ys.length = m by rw [rm.len, List.take_length]] at raa
        exact k D H1 acc s1 nD d1 (raa.keep s1)
    refine ite2 (fun z => absurd z (ge c4)) fun _ => ?_
    refine ⟨_, rfl, p, _, _, _, rfl, rfl, SqT.of hp, at_of (j := 0) rfl x0, rfl, _, rfl, ?_⟩
    by_cases c3 : headB d = "open"
    · refine ite2 (fun _ => ?_) (fun z => absurd (decide_eq_true (by rw [c3])) z)
      have hb : blocksB d = listB (argB d 1) := by unfold blocksB; rw [if_neg (by rw [c3]; decide), if_neg (by rw [c3]; decide), if_pos c3]
      obtain ⟨z1, z2, _⟩ := open_len hs c3
      rw [hb] at k
      obtain ⟨v1, x1, r1⟩ := arg_at (i := 1) ra (by rw [← ll, z1]; decide)
      rw [← el] at r1
      obtain ⟨m, em, _⟩ := choice_inv z2
      rw [em] at r1 k
      obtain ⟨q1, ys, rfl, hq1, rm⟩ := r1.tup_inv
      refine ⟨_, rfl, p, _, _, _, rfl, rfl, SqT.of hp, at_of (j := 1) rfl x1, q1, ys, rfl, .inr (SqT.of hq1), fun q nq => ?_⟩
      exact k q _ _ (Same.new nq) nq upd_same (rm.keep (Same.new nq))
    refine ite2 (fun z => absurd z (ge c3)) fun _ => ?_
    refine ⟨_, rfl, p, _, _, _, rfl, rfl, SqT.of hp, at_of (j := 0) rfl x0, rfl, _, rfl, ?_⟩
    by_cases c1 : headB d = "if"
    · refine ite2 (fun _ => ?_) (fun z => absurd (decide_eq_true (by rw [c1])) z)
      have hb : blocksB d = [argB d 2, argB d 3] := by unfold blocksB; rw [if_pos c1]
      obtain ⟨z1, _⟩ := if_len hs c1
      rw [hb] at k
      have ra' : RpAll K H xs (.str (headB d) :: l) := ra
      obtain ⟨v2, x2, r2⟩ := arg_at (i := 2) ra' (by rw [← ll, z1]; decide)
      obtain ⟨v3, x3, r3⟩ := arg_at (i := 3) ra' (by rw [← ll, z1]; decide)
      rw [← el] at r2 r3
      refine ⟨_, rfl, p, _, _, _, rfl, rfl, SqT.of hp, at_of (j := 2) rfl x2, _, rfl, p, _, _, _, rfl, rfl, SqT.of hp, at_of (j := 3) rfl x3, (by show 2 ≤ sizeLine; decide), fun q nq => ?_⟩
      exact k q _ _ (Same.new nq) nq upd_same (.cons (r2.keep (Same.new nq)) (.cons (r3.keep (Same.new nq)) .nil))
    refine ite2 (fun z => absurd z (ge c1)) fun _ => ?_
    refine ⟨_, rfl, p, _, _, _, rfl, rfl, SqT.of hp, at_of (j := 0) rfl x0, rfl, _, rfl, ?_⟩
    by_cases c2 : headB d = "repeat"
    · refine ite2 (fun _ => ?_) (fun z => absurd (decide_eq_true (by rw [c2])) z)
      have hb : blocksB d = [argB d 1] := by unfold blocksB; rw [if_neg (by rw [c2]; decide), if_pos c2]
      obtain ⟨z1, _⟩ := repeat_len hs c2
      rw [hb] at k
      obtain ⟨v1, x1, r1⟩ := arg_at (i := 1) ra (by rw [← ll, z1]; decide)
      rw [← el] at r1
      refine ⟨_, rfl, p, _, _, _, rfl, rfl, SqT.of hp, at_of (j := 1) rfl x1, (by show 1 ≤ sizeLine; decide), fun q nq => ?_⟩
      exact k q _ _ (Same.new nq) nq upd_same (.cons (r1.keep (Same.new nq)) .nil)
    refine ite2 (fun z => absurd z (ge c2)) fun _ => ?_
    have hb : blocksB d = [] := by unfold blocksB; rw [if_neg c1, if_neg c2, if_neg c3, if_neg c4]
    rw [hb] at k
    exact ⟨by decide, fun q nq => k q _ _ (Same.new nq) nq upd_same .nil⟩
end
end Oh
namespace Oh
open PySem PySem.Spec PyProof.Rows L2 PpSet
/-! ### pairs of truth values in a list -/
def PairV (H : Hp) (v : V) (p : Bool × Bool) : Prop := ∃ q, v = .ref q ∧ H q = some (.tup [.bl p.1, .bl p.2])
structure PairsAt (H : Hp) (xs : List V) (ps : List (Bool × Bool)) : Prop where
  len : xs.length = ps.length
  at_ : ∀ (i : Nat) (v : V) (p : Bool × Bool), xs[i]? = some v → ps[i]? = some p → PairV H v p
theorem PairsAt.nil {H : Hp} : PairsAt H [] [] := ⟨rfl, fun i v p h => by cases h⟩
theorem PairV.keep {H H' : Hp} {v : V} {p : Bool × Bool} (s : Same H H') (h : PairV H v p) : PairV H' v p := by
  obtain ⟨q, e, h⟩ := h
  exact ⟨q, e, s _ _ h⟩
theorem PairsAt.keep {H H' : Hp} {xs : List V} {ps : List (Bool × Bool)} (s : Same H H') (h : PairsAt H xs ps) : PairsAt H' xs ps := ⟨h.len, fun i v p h1 h2 => (h.at_ i v p h1 h2).keep s⟩
theorem PairsAt.snoc {H : Hp} {xs : List V} {ps : List (Bool × Bool)} {v : V} {p : Bool × Bool} (h : PairsAt H xs ps) (hv : PairV H v p) : PairsAt H (xs ++ [v]) (ps ++ [p]) := by
  refine ⟨by rw [List.length_append, List.length_append, h.len]; rfl, fun i u q h1 h2 => ?_⟩
  by_cases c : i < xs.length
  · rw [List.getElem?_append_left c] at h1
    rw [List.getElem?_append_left (by rw [← h.len]; exact c)] at h2
    exact h.at_ i u q h1 h2
  · rw [List.getElem?_append_right (by omega)] at h1
    rw [List.getElem?_append_right (by rw [← h.len]; omega), ← h.len] at h2
    cases e : i - xs.length with
    | zero =>
      rw [e] at h1 h2
      obtain rfl := Option.some.inj h1
      obtain rfl := Option.some.inj h2
      exact hv
    | succ n => rw [e] at h1; cases h1
theorem wipe1 {σ : L2.St} {i : Nat} {x : Option V} : wipe (σ.set i x) [i] = wipe σ [i] := by
  show (σ.set i x).set i none = σ.set i none
  rw [List.set_set]
/-- how many of the pairs are true at one place -/
theorem lc_pairs {K : PySem.W.Frag} {L D : Addr} {xs : List V} {ps : List (Bool × Bool)} {i : Nat} {σ : L2.St} {H1 : Hp} {Qd : Hp → Prop} {j : Nat} {sel : Bool × Bool → Bool} (hj : ∀ p : Bool × Bool, [V.bl p.1, V.bl p.2][j]? = some (.bl (sel p))) (hi : i < σ.length)
    (hL : H1 L = some (.lst xs)) (hp : PairsAt H1 xs ps) (hD : H1 D = none) (hl : xs.length ≤ 1000) (k : ∀ ys H', Same H1 H' → H' D = some (.lst ys) → ys.length = (ps.filter sel).length → Qd H') :
    ∃ W : Nat → Nat → Hp → Prop, (∃ m, W 0 m (upd H1 D (.lst []))) ∧ ∀ i' m H, W i' m H →
      ((Itl K L).stop i' H ∧ Qd H) ∨ ((Itl K L).go i' H ∧ ∃ Nx : Hp → Prop, (∀ H', Nx H' → ∃ m', m' < m ∧ W (i' + 1) m' H') ∧ ∀ x H', (Itl K L).yld i' H x H' → gName i x (wipe σ [i]) H' fun σ2 H2 => wipe σ2 [i] = wipe σ [i] ∧ tB (tOp (rIxT K) (tVar i) (tC (.int (j : Int)))) σ2 H2 fun b H3 =>
        if b = true then tVar i σ2 H3 fun y H4 => ∃ acc, H4 D = some (.lst acc) ∧ acc.length < sizeLine ∧ Nx (upd H4 D (.lst (acc ++ [y]))) else Nx H3) := by
  refine lc_it (walk_list (K := K) (a := L) (xs := xs)) (fun n H' => ∃ ys, H' D = some (.lst ys) ∧ ys.length = ((ps.take n).filter sel).length ∧ ys.length ≤ n ∧ Same H1 H') ⟨[], upd_same, rfl, Nat.zero_le _, Same.new hD⟩ (fun n H' _ ⟨ys, _, _, _, s⟩ => SqL.of (s _ _ hL)) ?_ ?_
  · rintro n x Ha Hb hn ⟨ys, h1, h2, h3, s⟩ ⟨e, ex⟩
    subst e
    have hn2 : n < ps.length := by rw [← hp.len]; exact hn
    obtain ⟨q, rfl, hq⟩ := hp.at_ n x ps[n] ex (List.getElem?_eq_getElem hn2)
    have tk : ps.take (n + 1) = ps.take n ++ [ps[n]] := by rw [List.take_add_one, List.getElem?_eq_getElem hn2]; rfl
    have hs : ((wipe σ [i]).set i (some (V.ref q)))[i]? = some (some (.ref q)) := by
      rw [List.getElem?_set_self (by rw [wipe_length]; exact hi)]
    refine ⟨by rw [wipe1]; exact wipe1, _, hs, q, _, _, _, rfl, rfl, SqT.of (s _ _ hq), at_of rfl (hj ps[n]), _, rfl, ?_⟩
    rw [tk, List.filter_append, List.length_append]
    cases c : sel ps[n] with
    | true =>
      rw [if_pos rfl]
      refine ⟨_, hs, ys, h1, Nat.lt_of_le_of_lt h3 (small1000 (by omega)), ys ++ [.ref q], upd_same, ?_, by rw [List.length_append]; show ys.length + 1 ≤ n + 1; omega, fun b o hb => ?_⟩
      · rw [List.length_append, h2, List.filter_cons, if_pos c]
        rfl
      · rw [upd_ne (ne_of_none hb hD)]
        exact s _ _ hb
    | false =>
      rw [if_neg (by decide)]
      refine ⟨ys, h1, ?_, by omega, s⟩
      rw [h2, List.filter_cons, if_neg (by rw [c]; decide)]
      rfl
  · rintro H' ⟨ys, h1, h2, h3, s⟩
    rw [hp.len, List.take_length] at h2
    exact k ys H' s h1 h2
theorem any_len {ps : List (Bool × Bool)} {sel : Bool × Bool → Bool} : decide ((0 : Int) < ((ps.filter sel).length : Nat)) = (ps.map sel).any id := by
  induction ps with
  | nil => rfl
  | cons p ps ih =>
    rw [List.filter_cons, List.map_cons, List.any_cons]
    cases c : sel p with
    | true =>
      rw [if_pos rfl, List.length_cons]
      exact decide_eq_true (by omega)
    | false =>
      rw [if_neg (by decide), ih]
      rfl
def spWays (K : PySem.W.Frag) (m : Nat) : Sp := fun vs H Q _ => ∃ v d, vs = [v] ∧ Rp K H v d ∧ goodR m d = true ∧ ∀ p H', Pair H H' p (quietW m d) → Q (.ref p) H'
end Oh
namespace Oh
open PySem PySem.Spec PyProof.Rows L2 PpSet
def spWaysP (K : PySem.W.Frag) : Nat → Sp
  | 0 => fun _ _ _ _ => False
  | m + 1 => spWays K m
theorem PairV.updL {H : Hp} {v : V} {p : Bool × Bool} {D : Addr} {zs ws : List V} (hD : H D = some (.lst zs)) (h : PairV H v p) : PairV (upd H D (.lst ws)) v p := by
  obtain ⟨q, e, h⟩ := h
  refine ⟨q, e, ?_⟩
  rw [upd_ne (fun z => by subst z; rw [hD] at h; cases Option.some.inj h)]
  exact h
theorem PairsAt.updL {H : Hp} {xs : List V} {ps : List (Bool × Bool)} {D : Addr} {zs ws : List V} (hD : H D = some (.lst zs)) (h : PairsAt H xs ps) : PairsAt (upd H D (.lst ws)) xs ps := ⟨h.len, fun i v p h1 h2 => (h.at_ i v p h1 h2).updL hD⟩
theorem iteT' {b : Bool} {p q : Prop} (h : b = true) (x : p) : if b = true then p else q := by rw [if_pos h]; exact x
theorem iteF' {b : Bool} {p q : Prop} (h : b = false) (x : q) : if b = true then p else q := by rw [if_neg (by rw [h]; decide)]; exact x
section
variable {P : Program} {w : World} {K : PySem.W.Frag} {mg : Str → Option Value} {base : Heap}
abbrev nWy : List Str := ["_law_block_here", "_law_left", "_law_statement_here", "_law_through", "_law_found", "_law_leaving", "_law_part", "_law_way"]
theorem scWays : FnScope nWy ["_law_block_here"] (defScope lWays) := ⟨rfl, rfl, rfl, by decide +kernel, rfl, by decide +kernel, by decide +kernel⟩
theorem ways_step {m : Nat} {f fP : Addr} {fd fdP : FuncData} (F : Fun K "_law_ways" "_law_ways" lWays f fd) (TI : TxtI mg)
    (GP : FnOk P w K mg base CX0 1 fP fdP ["_law_statement_here"] (spBlocks K)) (kP : PySem.W.keepIn K (.ref fP) = true) (bP : Binds K fdP ["_law_statement_here"] []) (mP : mg "_law_parts" = some (.ref fP))
    (bW : Binds K fd ["_law_block_here"] []) (mW : mg "_law_ways" = some (.ref f)) (GW : FnOk P w K mg base CX0 (m + 1) f fd ["_law_block_here"] (spWaysP K m)) : FnOk P w K mg base CX0 (m + 2) f fd ["_law_block_here"] (spWays K m) := by
  have kW := F.kp
  refine F.ok scWays (fun vs H Q E h => ?_) (fun cdv A outer s H vs Q E hr h => ?_)
  · obtain ⟨v, d, rfl, _⟩ := h
    rfl
  · obtain ⟨v, d, rfl, r, hg, k⟩ := h
    have hr1 : Room 1 _ := hr.mono (by omega)
    obtain ⟨m', rfl⟩ : ∃ m', m = m' + 1 := by
      cases m with
      | zero => cases hg
      | succ m => exact ⟨m, rfl⟩
    obtain ⟨l, rfl, ll, hd⟩ := good_inv hg
    obtain ⟨p, xs, rfl, hp, ra⟩ := r.tup_inv
    have hl := ra.len
    refine ⟨_, (pss_cons (ps_set (i := 1) scWays.nd rfl (Or.inl rfl) pe_bl)
      (pss_cons (ps_for PassesOwn.never rfl (pi_tup (pv 0)) (pg_name (i := 2) scWays.nd rfl (Or.inl rfl))
        (pss_cons (ps_set (i := 3) scWays.nd rfl (Or.inl rfl) (pe_cmpR op_eq (pe_ix ix_tup (pv 2) pe_int (fun _ _ => rfl)) pe_str (nomark _)))
        (pss_cons (ps_if (pt_cmpR op_eq (pe_ix ix_tup (pv 2) pe_int (fun _ _ => rfl)) pe_str (nomark _))
          (pss_one (ps_set (i := 1) scWays.nd rfl (Or.inl rfl) pe_bl)) pss_nil)
        (pss_cons (ps_if (pt_cmpR op_in_seq (pe_ix ix_tup (pv 2) pe_int (fun _ _ => rfl)) (pe_tup (pa_cons pe_str (pa_cons pe_str (pa_cons pe_str pa_nil)))) (by rfl))
          (pss_cons (ps_setLc (i := 4) (own := [("_law_part", 6)]) (g := gName 6) (tt := tYes) (te := tCall (spWaysP K (m' + 1)) [] E0 (tCons (tVar 6) tNil)) rfl scWays.nd rfl rfl (sw_true rfl rfl rfl (by decide +kernel)) (pi_list (pe_call GP hr1 (by rfl) mP kP bP .nil pass0 (pa_cons (pv 2) pa_nil))) (blkOk_by (N := nWy) (sc := defScope lWays) (by decide +kernel)) (fun _ _ _ _ _ => pg_name (i := 6) scWays.nd rfl (Or.inl rfl)) (fun _ _ _ _ _ => pts_nil) (fun _ _ _ _ _ => by exact (pe_call GW hr (by rfl) mW kW bW .nil pass0 (pa_cons (pv 6) pa_nil))))
          (pss_cons (ps_set (i := 3) scWays.nd rfl (Or.inl rfl) (pe_cmpR op_gt (pe_callB call_len_seq (by rfl) TI.len boot_len (pa_cons (pe_lc (own := [("_law_way", 7)]) (g := gName 7) (tt := tB (tOp (rIxT K) (tVar 7) (tC (.int ((0 : Nat) : Int))))) (te := tVar 7) rfl scWays.nd (pi_list (pv 4)) (blkOk_by (N := nWy) (sc := defScope lWays) (by decide +kernel)) (fun _ _ _ _ _ => pg_name (i := 7) scWays.nd rfl (Or.inl rfl)) (fun _ _ _ _ _ => pts_one (pt_val (pe_ix ix_tup (pv 7) pe_int (fun _ _ => rfl)))) (fun _ _ _ _ _ => by exact (pv 7))) pa_nil)) pe_int (nomark _)))
          (pss_cons (ps_set (i := 5) scWays.nd rfl (Or.inl rfl) (pe_cmpR op_gt (pe_callB call_len_seq (by rfl) TI.len boot_len (pa_cons (pe_lc (own := [("_law_way", 7)]) (g := gName 7) (tt := tB (tOp (rIxT K) (tVar 7) (tC (.int ((1 : Nat) : Int))))) (te := tVar 7) rfl scWays.nd (pi_list (pv 4)) (blkOk_by (N := nWy) (sc := defScope lWays) (by decide +kernel)) (fun _ _ _ _ _ => pg_name (i := 7) scWays.nd rfl (Or.inl rfl)) (fun _ _ _ _ _ => pts_one (pt_val (pe_ix ix_tup (pv 7) pe_int (fun _ _ => rfl)))) (fun _ _ _ _ _ => by exact (pv 7))) pa_nil)) pe_int (nomark _)))
          (pss_one (ps_if (pt_cmpR op_eq (pe_ix ix_tup (pv 2) pe_int (fun _ _ => rfl)) pe_str (nomark _))
            (pss_one (ps_set (i := 3) scWays.nd rfl (Or.inl rfl) (pv 5))) (pss_one (ps_set (i := 1) scWays.nd rfl (Or.inl rfl) (pe_or (pv 1) (pe_one (pv 5)))))))))) pss_nil)
        (pss_one (ps_if (pt_not (pt_val (pv 3)))
          (pss_one (ps_ret (pe_tup (pa_cons pe_bl (pa_cons (pv 1) pa_nil))))) pss_nil))))))
      (pss_one (ps_ret (pe_tup (pa_cons pe_bl (pa_cons (pv 1) pa_nil))))))), ?_⟩
    have fin : ∀ (lv : Bool) (b : Bool) (H1 : Hp), Same H H1 → quietW (m' + 1) (.tup l) = (b, lv) → ∀ q, H1 q = none → Q (.ref q) (upd H1 q (.tup [.bl b, .bl lv])) := fun lv b H1 s1 e q nq => by
      refine k q _ ⟨s1.trans (Same.new nq), s1.free nq, ?_⟩
      rw [upd_same, e]
    have ge : ∀ {a b : Str}, a ≠ b → ¬ decide (V.str a = V.str b) = true := fun h z => h (V.str.inj (of_decide_eq_true z))
    refine ⟨_, rfl, p, rfl, ⟨_, SqT.of hp⟩, for_it (walk_tup (xs := xs)) (fun i σ H' => ∃ (lv : Bool) (y2 y3 y4 y5 y6 y7 : Option V), σ = [some (.ref p), some (.bl lv), y2, y3, y4, y5, y6, y7] ∧ Same H H' ∧ quietW (m' + 1) (.tup l) = quietL (quietO (quietW m')) (l.drop i) lv)
      ⟨false, _, _, _, _, _, _, rfl, Same.refl H, rfl⟩ ?_ ?_ ?_⟩
    · rintro i σ H' _ ⟨lv, y2, y3, y4, y5, y6, y7, _, s', _⟩
      exact SqT.of (s' _ _ hp)
    · rintro i x σ H1 H2 hi ⟨lv, y2, y3, y4, y5, y6, y7, rfl, s1, e⟩ ⟨e2, ex⟩
      subst e2
      have li : i < l.length := by rw [← hl]; exact hi
      obtain ⟨vi, ev, rv⟩ := ra.get (i := i) (d := l[i]) (List.getElem?_eq_getElem li)
      obtain rfl := Option.some.inj (ev.symm.trans ex)
      have dr : l.drop i = l[i] :: l.drop (i + 1) := List.drop_eq_getElem_cons li
      rw [dr] at e
      obtain ⟨hs, hb⟩ := hd l[i] (List.getElem_mem li)
      obtain ⟨g, lr, _, _, el⟩ := stmt_inv hs
      have rv1 := rv.keep s1
      have rv' := rv1
      rw [el] at rv'
      obtain ⟨q, zs, rfl, hq, rz⟩ := rv'.tup_inv
      obtain ⟨v0, x0, r0⟩ := rz.get (i := 0) rfl
      cases r0
      have e' : quietW (m' + 1) (.tup l) = if (quietO (quietW m') l[i]).1 = true then quietL (quietO (quietW m')) (l.drop (i + 1)) (lv || (quietO (quietW m') l[i]).2) else (false, lv || (quietO (quietW m') l[i]).2) := e
      clear e dr
      have hx0 := at_of (j := 0) rfl x0
      refine ⟨_, rfl, q, _, _, _, rfl, rfl, SqT.of hq, hx0, rfl, ?_⟩
      refine ⟨_, rfl, q, _, _, _, rfl, rfl, SqT.of hq, hx0, rfl, _, rfl, ?_⟩
      by_cases c1 : headB l[i] = "leave"
      · refine ite2 (fun _ => ?_) (fun z => absurd (decide_eq_true (by rw [c1])) z)
        refine ⟨_, rfl, q, _, _, _, rfl, rfl, SqT.of hq, hx0, by show 3 ≤ sizeLine; decide, fun r nr => ⟨r, _, rfl, .inr (SqT.of upd_same), rfl, rfl, _, rfl, ?_⟩⟩
        rw [c1]
        refine iteF ⟨_, rfl, _, rfl, iteT ⟨_, rfl, by show 2 ≤ sizeLine; decide, fun q2 nq2 => fin true false _ (s1.trans (Same.new nr)) ?_ q2 nq2⟩⟩
        rw [e']
        have z : quietO (quietW m') l[i] = (false, true) := by
          unfold quietO
          rw [if_neg (by rw [hs]; decide), if_neg (by rw [c1]; decide), if_pos c1]
        rw [z]
        show (false, lv || true) = _
        rw [Bool.or_true]
      refine ite2 (fun z => absurd z (ge c1)) fun _ => ?_
      refine ⟨_, rfl, q, _, _, _, rfl, rfl, SqT.of hq, hx0, by show 3 ≤ sizeLine; decide, fun r nr => ⟨r, _, rfl, .inr (SqT.of upd_same), rfl, rfl, _, rfl, ?_⟩⟩
      have s2 := s1.trans (Same.new (o := .tup [.str "if", .str "open", .str "repeat"]) nr)
      have hq2 := (Same.new (o := .tup [.str "if", .str "open", .str "repeat"]) nr) _ _ hq
      have rv2 := rv1.keep (Same.new (o := .tup [.str "if", .str "open", .str "repeat"]) nr)
      generalize upd H2 r (.tup [.str "if", .str "open", .str "repeat"]) = H3 at s2 hq2 rv2 ⊢
      by_cases c2 : headB l[i] = "if" ∨ headB l[i] = "open" ∨ headB l[i] = "repeat"
      · have hin : inV (V.str (headB l[i])) [.str "if", .str "open", .str "repeat"] = true := by
          rcases c2 with c2 | c2 | c2 <;> (rw [c2]; decide +kernel)
        refine iteT' hin ?_
        refine ⟨_, rfl, .ref q, l[i], rfl, rv2, hs, fun L H4 ys s4 nL hL rb => ⟨L, rfl, ⟨_, SqL.of hL⟩, fun D nD => ?_⟩⟩
        refine lc_it (walk_list (xs := ys)) (fun n H' => ∃ zs, H' D = some (.lst zs) ∧ zs.length = n ∧ Same H4 H' ∧ PairsAt H' zs (((blocksB l[i]).take n).map (quietW m'))) ⟨[], upd_same, rfl, Same.new nD, .nil⟩ (fun n H' _ ⟨_, _, _, s, _⟩ => SqL.of (s _ _ hL)) ?_ ?_
        · rintro n y Ha Hb hn ⟨zs, z1, z2, z3, z4⟩ ⟨e3, ey⟩
          subst e3
          have ln : n < (blocksB l[i]).length := by rw [← rb.len]; exact hn
          obtain ⟨vn, evn, rn⟩ := rb.get (i := n) (d := (blocksB l[i])[n]) (List.getElem?_eq_getElem ln)
          obtain rfl := Option.some.inj (evn.symm.trans ey)
          refine ⟨rfl, _, rfl, vn, _, rfl, rn.keep z3, hb _ (List.getElem_mem ln), fun u H5 ⟨s5, nu, hu⟩ => ⟨zs, s5 _ _ z1, small1000 ?_, zs ++ [.ref u], upd_same, by rw [List.length_append, z2]; rfl, fun b o hb => ?_, ?_⟩⟩
          · have := (blocks_ok hs).2
            omega
          · rw [upd_ne (ne_of_none hb nD)]
            exact s5 _ _ (z3 _ _ hb)
          · have tk : ((blocksB l[i]).take (n + 1)).map (quietW m') = ((blocksB l[i]).take n).map (quietW m') ++ [quietW m' (blocksB l[i])[n]] := by rw [List.take_add_one, List.getElem?_eq_getElem ln, List.map_append]; rfl
            rw [tk]
            have hD5 := s5 _ _ z1
            exact ((z4.keep s5).updL hD5).snoc (PairV.updL hD5 ⟨u, rfl, hu⟩)
        · rintro H5 ⟨zs, z1, z2, z3, z4⟩
          rw [show (blocksB l[i]).take ys.length = blocksB l[i] by rw [rb.len, List.take_length]] at z4
          have z1000 : zs.length ≤ 1000 := by
            have := (blocks_ok hs).2
            rw [z2, rb.len]
            omega
          refine ⟨_, rfl, D, rfl, ⟨_, SqL.of z1⟩, fun D2 n2 => lc_pairs (sel := fun p => p.1) (j := 0) (fun _ => rfl) (Nat.le_of_ble_eq_true rfl) z1 z4 n2 z1000 fun ws H6 s6 hw lw => ⟨D2, ws, rfl, .inl (SqL.of hw), _, _, rfl, rfl, ?_⟩⟩
          refine ⟨_, rfl, D, rfl, ⟨_, SqL.of (s6 _ _ z1)⟩, fun D3 n3 => lc_pairs (sel := fun p => p.2) (j := 1) (fun _ => rfl) (Nat.le_of_ble_eq_true rfl) (s6 _ _ z1) (z4.keep s6) n3 z1000 fun ws2 H7 s7 hw2 lw2 => ⟨D3, ws2, rfl, .inl (SqL.of hw2), _, _, rfl, rfl, ?_⟩⟩
          have s8 : Same H H7 := s2.trans (s4.trans (z3.trans (s6.trans s7)))
          have hq7 := s7 _ _ (s6 _ _ (z3 _ _ (s4 _ _ hq2)))
          refine ⟨_, rfl, q, _, _, _, rfl, rfl, SqT.of hq7, hx0, rfl, _, rfl, ?_⟩
          have a1 : decide ((0 : Int) < ((ws.length : Nat) : Int)) = (((blocksB l[i]).map (quietW m')).map (·.1)).any id := by rw [lw]; exact any_len
          have a2 : decide ((0 : Int) < ((ws2.length : Nat) : Int)) = (((blocksB l[i]).map (quietW m')).map (·.2)).any id := by rw [lw2]; exact any_len
          by_cases c3 : headB l[i] = "repeat"
          · refine ite2 (fun _ => ?_) (fun z => absurd (decide_eq_true (by rw [c3])) z)
            have z : quietO (quietW m') l[i] = (decide ((0 : Int) < ((ws2.length : Nat) : Int)), false) := by
              rw [a2, blocks_head c3]
              unfold quietO
              rw [if_neg (by rw [hs]; decide), if_neg (by rw [c3]; decide), if_neg (by rw [c3]; decide), if_pos c3]
              show _ = ((quietW m' (argB l[i] 1)).2 || false, false)
              rw [Bool.or_false]
            rw [z] at e'
            dsimp only at e'
            rw [Bool.or_false] at e'
            refine ⟨_, rfl, _, rfl, _, rfl, ?_⟩
            show if (!decide ((0 : Int) < ((ws2.length : Nat) : Int))) = true then _ else _
            generalize decide ((0 : Int) < ((ws2.length : Nat) : Int)) = b2 at e' ⊢
            cases b2 with
            | true => exact iteF ⟨lv, _, _, _, _, _, _, rfl, s8, e'⟩
            | false => exact iteT ⟨_, rfl, by show 2 ≤ sizeLine; decide, fun q2 nq2 => fin lv false H7 s8 e' q2 nq2⟩
          · refine ite2 (fun z => absurd z (ge c3)) fun _ => ?_
            have c4 : headB l[i] = "if" ∨ headB l[i] = "open" := by
              rcases c2 with c | c | c
              · exact .inl c
              · exact .inr c
              · exact absurd c c3
            have z : quietO (quietW m') l[i] = (decide ((0 : Int) < ((ws.length : Nat) : Int)), decide ((0 : Int) < ((ws2.length : Nat) : Int))) := by
              rw [a1, a2]
              unfold quietO
              rw [if_neg (by rw [hs]; decide), if_neg (by rcases c4 with c | c <;> (rw [c]; decide)), if_neg c1, if_neg c3, if_pos c4]
            rw [z] at e'
            dsimp only at e'
            cases lv with
            | true =>
              refine ⟨_, rfl, _, rfl, iteT ⟨_, rfl, _, rfl, ?_⟩⟩
              show if (!decide ((0 : Int) < ((ws.length : Nat) : Int))) = true then _ else _
              generalize decide ((0 : Int) < ((ws.length : Nat) : Int)) = b1 at e' ⊢
              cases b1 with
              | true => exact iteF ⟨true, _, _, _, _, _, _, rfl, s8, e'⟩
              | false => exact iteT ⟨_, rfl, by show 2 ≤ sizeLine; decide, fun q2 nq2 => fin true false H7 s8 e' q2 nq2⟩
            | false =>
              refine ⟨_, rfl, _, rfl, iteF ⟨_, rfl, ⟨_, rfl, _, rfl, ?_⟩⟩⟩
              show if (!decide ((0 : Int) < ((ws.length : Nat) : Int))) = true then _ else _
              generalize decide ((0 : Int) < ((ws.length : Nat) : Int)) = b1 at e' ⊢
              cases b1 with
              | true => exact iteF ⟨_, _, _, _, _, _, _, rfl, s8, e'⟩
              | false => exact iteT ⟨_, rfl, by show 2 ≤ sizeLine; decide, fun q2 nq2 => fin _ false H7 s8 e' q2 nq2⟩
      · have hin : inV (V.str (headB l[i])) [.str "if", .str "open", .str "repeat"] = false := by
          rw [show [V.str "if", .str "open", .str "repeat"] = ([ "if", "open", "repeat"] : List Str).map V.str from rfl, inV_strs]
          refine decide_eq_false fun m => c2 ?_
          simpa using m
        refine iteF' hin ?_
        refine ⟨_, rfl, _, rfl, ?_⟩
        show if (!decide (V.str (headB l[i]) = V.str "set")) = true then _ else _
        by_cases c5 : headB l[i] = "set"
        · have z : quietO (quietW m') l[i] = (true, false) := by
            unfold quietO
            rw [if_neg (by rw [hs]; decide), if_pos c5]
          rw [z] at e'
          dsimp only at e'
          rw [Bool.or_false] at e'
          rw [decide_eq_true (by rw [c5])]
          exact iteF ⟨lv, _, _, _, _, _, _, rfl, s2, e'⟩
        · have z : quietO (quietW m') l[i] = (false, false) := by
            unfold quietO
            rw [if_neg (by rw [hs]; decide), if_neg c5, if_neg c1, if_neg (fun c => c2 (.inr (.inr c))), if_neg (fun c => c2 (c.elim .inl (fun c => .inr (.inl c))))]
          rw [z] at e'
          dsimp only at e'
          rw [Bool.or_false] at e'
          rw [decide_eq_false (fun c => c5 (V.str.inj c))]
          exact iteT ⟨_, rfl, by show 2 ≤ sizeLine; decide, fun q2 nq2 => fin lv false H3 s2 e' q2 nq2⟩
    · rintro σ H1 ⟨lv, y2, y3, y4, y5, y6, y7, rfl, s1, e⟩
      have dr : l.drop xs.length = [] := by rw [hl]; exact List.drop_length
      rw [dr] at e
      exact ⟨_, rfl, (by show 2 ≤ sizeLine; decide), fun q nq => fin lv true H1 s1 e q nq⟩
theorem ok_ways {f fP : Addr} {fd fdP : FuncData} (F : Fun K "_law_ways" "_law_ways" lWays f fd) (TI : TxtI mg)
    (GP : FnOk P w K mg base CX0 1 fP fdP ["_law_statement_here"] (spBlocks K)) (kP : PySem.W.keepIn K (.ref fP) = true) (bP : Binds K fdP ["_law_statement_here"] []) (mP : mg "_law_parts" = some (.ref fP))
    (bW : Binds K fd ["_law_block_here"] []) (mW : mg "_law_ways" = some (.ref f)) : ∀ m, FnOk P w K mg base CX0 (m + 2) f fd ["_law_block_here"] (spWays K m)
  | 0 => ways_step F TI GP kP bP mP bW mW never_ok
  | m + 1 => ways_step F TI GP kP bP mP bW mW (ok_ways F TI GP kP bP mP bW mW m)
end
end Oh
namespace Oh
open PySem PySem.Spec PyProof.Rows L2 PpSet
theorem FnOk_any {P : Program} {w : World} {K : PySem.W.Frag} {mg : Str → Option Value} {base : Heap} {CX : CXT} {k : Nat} {f : Addr} {fd : FuncData} {ps : List Str} {sp : Nat → Sp} {N : Nat} (G : ∀ n, n ≤ N → FnOk P w K mg base CX k f fd ps (sp n)) :
    FnOk P w K mg base CX k f fd ps (fun vs H Q E => ∃ n, n ≤ N ∧ sp n vs H Q E) :=
  ⟨fun vs H Q E ⟨n, hn, h⟩ => (G n hn).len vs H Q E h, fun A outer s H args us vs Q E hr he hb hv ⟨n, hn, h⟩ => (G n hn).run A outer s H args us vs Q E hr he hb hv h⟩
/-! ### what is drawn -/
def genI (S1 S2 : List Str) (m : Nat) (rec : Bool → DT → Prop) (lp : Bool) (d : DT) : Prop :=
  stmtB d = true ∧ NP S1 S2 d ∧ (headB d = "leave" → lp = true) ∧ (headB d = "repeat" → (quietW m (argB d 1)).1 = false) ∧ ∀ c ∈ blocksB d, rec (lp || decide (headB d = "repeat")) c
def genR (S1 S2 : List Str) : Nat → Bool → DT → Prop
  | 0 => fun _ _ => False
  | m + 1 => fun lp b => blockB b = true ∧ ∀ d ∈ listB b, genI S1 S2 m (genR S1 S2 m) lp d
abbrev ItemG (S1 S2 : List Str) (m : Nat) (lp : Bool) (d : DT) : Prop := genI S1 S2 m (genR S1 S2 m) lp d
theorem gen_dep {S1 S2 : List Str} : ∀ {m : Nat} {lp : Bool} {b : DT}, genR S1 S2 m lp b → depW m b
  | 0, _, _, h => h
  | m + 1, lp, b, h => fun d hd _ c hc => gen_dep ((h.2 d hd).2.2.2.2 c hc)
theorem gen_good {S1 S2 : List Str} : ∀ {m : Nat} {lp : Bool} {b : DT}, genR S1 S2 m lp b → goodR m b = true
  | 0, _, _, h => h.elim
  | m + 1, lp, b, h => Bool.and_eq_true_iff.mpr ⟨h.1, List.all_eq_true.mpr fun d hd => Bool.and_eq_true_iff.mpr ⟨(h.2 d hd).1, List.all_eq_true.mpr fun c hc => gen_good ((h.2 d hd).2.2.2.2 c hc)⟩⟩
theorem item_up {S1 S2 : List Str} {m k : Nat} {lp : Bool} {d : DT} (hm : m ≤ k) (h : ItemG S1 S2 m lp d) (rec : ∀ {lp : Bool} {b : DT}, genR S1 S2 m lp b → genR S1 S2 k lp b) : ItemG S1 S2 k lp d := by
  obtain ⟨h1, h2, h3, h4, h5⟩ := h
  refine ⟨h1, h2, h3, fun e => ?_, fun c hc => rec (h5 c hc)⟩
  have z := gen_dep (h5 (argB d 1) (by rw [blocks_head e]; exact List.mem_cons_self))
  rw [quiet_up hm z]
  exact h4 e
theorem gen_up {S1 S2 : List Str} : ∀ {m k : Nat} {lp : Bool} {b : DT}, m ≤ k → genR S1 S2 m lp b → genR S1 S2 k lp b
  | 0, _, _, _, _, h => h.elim
  | m + 1, 0, _, _, h, _ => absurd h (by omega)
  | m + 1, k + 1, lp, b, hm, h => ⟨h.1, fun d hd => item_up (by omega) (h.2 d hd) fun z => gen_up (by omega) z⟩
theorem ig_up {S1 S2 : List Str} {m k : Nat} {lp : Bool} {d : DT} (hm : m ≤ k) (h : ItemG S1 S2 m lp d) : ItemG S1 S2 k lp d := item_up hm h fun z => gen_up hm z
/-- a statement without blocks -/
theorem ig_simp {S1 S2 : List Str} {m : Nat} {lp : Bool} {d : DT} (h : Simp d) (n : NP S1 S2 d) : ItemG S1 S2 m lp d :=
  ⟨h.st, n, fun e => absurd e h.h1, fun e => absurd e h.h2, fun c hc => by rw [h.bl] at hc; cases hc⟩
theorem wt_simp {d : DT} (h : Simp d) (k : Nat) : wtW (cntW k) d = 1 := by
  unfold wtW
  rw [h.bl]
  simp
theorem ig_leave {S1 S2 : List Str} {m : Nat} : ItemG S1 S2 m true leaveD :=
  ⟨stmt_of (kb_word (.inl rfl)) rfl, np_other (by decide) (by decide) (by decide) (by decide) (by decide), fun _ => rfl, fun e => absurd e (ne_head (by decide)), fun c hc => by
    rw [bl_none (d := leaveD) (ne_head (by decide)) (ne_head (by decide)) (ne_head (by decide)) (ne_head (by decide))] at hc
    cases hc⟩
theorem wt_leave (k : Nat) : wtW (cntW k) leaveD = 1 := by
  unfold wtW
  rw [bl_none (d := leaveD) (ne_head (by decide)) (ne_head (by decide)) (ne_head (by decide)) (ne_head (by decide))]
  simp
theorem wt_of {d : DT} (h : stmtB d = true) (k : Nat) : wtW (cntW k) d = 1 + ((blocksB d).map (cntW k)).sum := by
  unfold wtW
  rw [if_pos h]
theorem gen_block {S1 S2 : List Str} {m : Nat} {lp : Bool} {b : DT} (h : genR S1 S2 m lp b) : blockB b = true := by
  cases m with
  | zero => exact h.elim
  | succ m => exact h.1
theorem ig_if {S1 S2 : List Str} {m : Nat} {lp : Bool} {e b c : DT} (he : ExprOk 4 S1 e) (hb : genR S1 S2 m lp b) (hc : genR S1 S2 m lp c) : ItemG S1 S2 m lp (ifD e b c) := by
  refine ⟨by rw [stmt_if, he.ex 4 (Nat.le_refl _), gen_block hb, gen_block hc]; rfl, np_if (he.nm 4 (Nat.le_refl _)), fun z => absurd z (ne_head (by decide)), fun z => absurd z (ne_head (by decide)), fun x hx => ?_⟩
  rw [blocks_if] at hx
  rw [decide_eq_false (ne_head (h := "if") (by decide)), Bool.or_false]
  rcases List.mem_cons.mp hx with rfl | hx
  · exact hb
  · rw [List.mem_singleton.mp hx]
    exact hc
theorem choice_of {l : List DT} (h1 : 1 ≤ l.length) (h4 : l.length ≤ 4) : choiceB (.tup l) = true := by
  show (decide (1 ≤ l.length) && decide (l.length ≤ 4)) = true
  rw [decide_eq_true h1, decide_eq_true h4]
  rfl
theorem ig_open {S1 S2 : List Str} {m : Nat} {lp : Bool} {bs : List DT} (h1 : 1 ≤ bs.length) (h4 : bs.length ≤ 4) (hb : ∀ b ∈ bs, genR S1 S2 m lp b) : ItemG S1 S2 m lp (openD bs) := by
  refine ⟨by
    rw [stmt_open, choice_of h1 h4, List.all_eq_true.mpr fun x hx => by
      obtain ⟨b, mb, rfl⟩ := List.mem_map.mp hx
      exact gen_block (hb b mb)]
    rfl, np_other (by decide) (by decide) (by decide) (by decide) (by decide), fun z => absurd z (ne_head (by decide)), fun z => absurd z (ne_head (by decide)), fun x hx => ?_⟩
  rw [blocks_open] at hx
  rw [decide_eq_false (ne_head (h := "open") (by decide)), Bool.or_false]
  exact hb x hx
theorem ig_rep {S1 S2 : List Str} {m : Nat} {lp : Bool} {b : DT} (hb : genR S1 S2 m true b) (q : (quietW m b).1 = false) : ItemG S1 S2 m lp (repD b) := by
  refine ⟨by rw [stmt_rep]; exact gen_block hb, np_other (by decide) (by decide) (by decide) (by decide) (by decide), fun z => absurd z (ne_head (by decide)), fun _ => q, fun x hx => ?_⟩
  rw [blocks_rep] at hx
  rw [List.mem_singleton.mp hx, decide_eq_true (show headB (repD b) = "repeat" from rfl), Bool.or_true]
  exact hb
/-- the rows of a wait -/
structure RowG (S1 S2 : List Str) (m : Nat) (lp : Bool) (r : DT) : Prop where
  ex : ∃ p n b, r = .tup [.str p, .str n, b] ∧ nameB (.str p) = true ∧ nameB (.str n) = true ∧ p ∈ S2 ∧ n ∈ S1 ∧ genR S1 S2 m lp b
theorem RowG.row {S1 S2 : List Str} {m : Nat} {lp : Bool} {r : DT} (h : RowG S1 S2 m lp r) : rowB r = true := by
  obtain ⟨p, n, b, rfl, h1, h2, _, _, h5⟩ := h.ex
  show (true && (nameB (.str p) && (nameB (.str n) && blockB b))) = true
  rw [h1, h2, gen_block h5]
  rfl
theorem ig_wait {S1 S2 : List Str} {m : Nat} {lp : Bool} {rs : List DT} (h1 : 1 ≤ rs.length) (h4 : rs.length ≤ 4) (hr : ∀ r ∈ rs, RowG S1 S2 m lp r) (hn : (rs.map portB).Nodup) : ItemG S1 S2 m lp (waitD rs) := by
  refine ⟨by
    rw [stmt_wait, choice_of h1 h4, decide_eq_true hn, List.all_eq_true.mpr fun x hx => by
      obtain ⟨b, mb, rfl⟩ := List.mem_map.mp hx
      exact (hr b mb).row]
    rfl, np_of names_wait ports_wait (fun k hk => ?_) (fun k hk => ?_), fun z => absurd z (ne_head (by decide)), fun z => absurd z (ne_head (by decide)), fun x hx => ?_⟩
  · obtain ⟨r, mr, rfl⟩ := List.mem_map.mp hk
    obtain ⟨p, n, b, rfl, _, _, _, h4, _⟩ := (hr r mr).ex
    exact h4
  · obtain ⟨r, mr, rfl⟩ := List.mem_map.mp hk
    obtain ⟨p, n, b, rfl, _, _, h3, _, _⟩ := (hr r mr).ex
    exact h3
  · rw [blocks_wait] at hx
    rw [decide_eq_false (ne_head (h := "wait") (by decide)), Bool.or_false]
    obtain ⟨r, mr, rfl⟩ := List.mem_map.mp hx
    obtain ⟨p, n, b, rfl, _, _, _, _, h5⟩ := (hr r mr).ex
    exact h5
theorem quietL_snoc {one : DT → Bool × Bool} {t : DT} (h : (one t).1 = false) : ∀ (l : List DT) (lv : Bool), (quietL one (l ++ [t]) lv).1 = false
  | [], lv => by
    show (quietL one [t] lv).1 = false
    unfold quietL
    rw [if_neg (by rw [h]; decide)]
  | d :: r, lv => by
    show (quietL one (d :: (r ++ [t])) lv).1 = false
    unfold quietL
    split
    · exact quietL_snoc h r _
    · rfl
theorem quiet_snoc {m : Nat} {l : List DT} {t : DT} (h : Simp t) (th : headB t = "tell" ∨ headB t = "hear") : (quietW (m + 1) (.tup (l ++ [t]))).1 = false := by
  refine quietL_snoc ?_ l false
  unfold quietO
  rw [if_neg (by rw [h.st]; decide), if_neg (by rcases th with z | z <;> (rw [z]; decide)), if_neg h.h1, if_neg h.h2, if_neg (by rcases th with z | z <;> (rw [z]; decide))]
theorem gen_snoc {S1 S2 : List Str} {m : Nat} {lp : Bool} {l : List DT} {t : DT} (h : genR S1 S2 (m + 1) lp (.tup l)) (hl : l.length ≤ 11) (ht : ItemG S1 S2 m lp t) : genR S1 S2 (m + 1) lp (.tup (l ++ [t])) := by
  refine ⟨decide_eq_true (by rw [List.length_append]; show l.length + 1 ≤ 12; omega), fun d hd => ?_⟩
  rcases List.mem_append.mp hd with hd | hd
  · exact h.2 d hd
  · rw [List.mem_singleton.mp hd]
    exact ht
theorem cnt_snoc {k : Nat} {l : List DT} {t : DT} : cntW k (.tup (l ++ [t])) ≤ cntW k (.tup l) + wtW (cntW (k - 1)) t := by
  cases k with
  | zero => exact Nat.zero_le _
  | succ k =>
    show ((l ++ [t]).map (wtW (cntW k))).sum ≤ (l.map (wtW (cntW k))).sum + wtW (cntW k) t
    rw [List.map_append, List.sum_append]
    show _ + (wtW (cntW k) t + 0) ≤ _
    omega
/-! ### the source and the room -/
structure Rm (H : Hp) (a c r : Addr) (n : Nat) : Prop where
  src : Src H a c
  at_ : H r = some (.lst [.int (n : Int)])
  ne : r ≠ c
theorem Rm.na {H : Hp} {a c r : Addr} {n : Nat} (R : Rm H a c r n) : r ≠ a := fun z => by
  subst z
  obtain ⟨_, ns, i, sm, k, x1, _, _⟩ := R.src
  have := Option.some.inj (x1.symm.trans R.at_)
  cases this
def Dro (a c r : Addr) (H H' : Hp) : Prop := ∀ b o, H b = some o → b ≠ a → b ≠ c → b ≠ r → H' b = some o
theorem Dro.refl {a c r : Addr} {H : Hp} : Dro a c r H H := fun _ _ h _ _ _ => h
theorem Dro.trans {a c r : Addr} {H H1 H2 : Hp} (x : Dro a c r H H1) (y : Dro a c r H1 H2) : Dro a c r H H2 := fun b o h n1 n2 n3 => y b o (x b o h n1 n2 n3) n1 n2 n3
theorem Dro.of_drw {a c r : Addr} {H H' : Hp} (d : Drw a c H H') : Dro a c r H H' := fun b o h n1 n2 _ => d.k b o h n1 n2
theorem Dro.of_same {a c r : Addr} {H H' : Hp} (s : Same H H') : Dro a c r H H' := fun b o h _ _ _ => s b o h
theorem Rm.drw {H H' : Hp} {a c r : Addr} {n : Nat} (R : Rm H a c r n) (d : Drw a c H H') : Rm H' a c r n := ⟨d.s, d.k _ _ R.at_ R.na R.ne, R.ne⟩
theorem Rm.same {H H' : Hp} {a c r : Addr} {n : Nat} (R : Rm H a c r n) (s : Same H H') : Rm H' a c r n := ⟨R.src.same s, s _ _ R.at_, R.ne⟩
theorem Rm.at' {H H' : Hp} {a c r : Addr} {n : Nat} (R : Rm H a c r n) (x : Dro a c r H H') {p : Addr} {o : HO} (e : H p = some o) (ne : ∀ xs, o ≠ .lst xs) : H' p = some o := by
  obtain ⟨_, ns, i, sm, k, x1, x2, _⟩ := R.src
  refine x p o e (fun z => ?_) (fun z => ?_) (fun z => ?_)
  · subst z
    exact ne _ (Option.some.inj (e.symm.trans x1))
  · subst z
    exact ne _ (Option.some.inj (e.symm.trans x2))
  · subst z
    exact ne _ (Option.some.inj (e.symm.trans R.at_))
mutual
theorem Rp.dro {K : PySem.W.Frag} {H H' : Hp} {a c r : Addr} {n n' : Nat} (R : Rm H a c r n) (R' : Rm H' a c r n') (x : Dro a c r H H') : ∀ {v : V} {d : DT}, Rp K H v d → Rp K H' v d
  | _, _, .non => .non
  | _, _, .bl b => .bl b
  | _, _, .int i => .int i
  | _, _, .str z => .str z
  | _, _, .tup e r => .tup (R.at' x e (fun _ => nofun)) (RpAll.dro R R' x r)
  | _, _, .lst (p := p) (xs := xs) e => by
    obtain ⟨_, ns, i, sm, k, x1, x2, _⟩ := R'.src
    by_cases h1 : p = a
    · subst h1
      exact .lst x1
    · by_cases h2 : p = c
      · subst h2
        exact .lst x2
      · by_cases h3 : p = r
        · subst h3
          exact .lst R'.at_
        · exact .lst (x p _ e h1 h2 h3)
  | _, _, .dct e => .dct (R.at' x e (fun _ => nofun))
  | _, _, .ins e c => .ins (R.at' x e (fun _ => nofun)) c
theorem RpAll.dro {K : PySem.W.Frag} {H H' : Hp} {a c r : Addr} {n n' : Nat} (R : Rm H a c r n) (R' : Rm H' a c r n') (x : Dro a c r H H') : ∀ {vs : List V} {ds : List DT}, RpAll K H vs ds → RpAll K H' vs ds
  | _, _, .nil => .nil
  | _, _, .cons h t => .cons (Rp.dro R R' x h) (RpAll.dro R R' x t)
end
theorem Rm.ne_strs {H : Hp} {a c r l : Addr} {n : Nat} {S1 : List Str} (R : Rm H a c r n) (h : H l = some (.lst (S1.map V.str))) (h1 : 1 ≤ S1.length) : l ≠ a ∧ l ≠ c ∧ l ≠ r := by
  refine ⟨(R.src.ne_strs h h1).1, (R.src.ne_strs h h1).2, fun z => ?_⟩
  subst z
  have := Option.some.inj (R.at_.symm.trans h)
  match S1, h1 with
  | s :: t, _ => cases this
theorem MenuAt.dro {H H' : Hp} {a c r p l1 l2 : Addr} {n : Nat} {S1 S2 : List Str} (M : MenuAt H p l1 l2 S1 S2) (R : Rm H a c r n) (d : Dro a c r H H') : MenuAt H' p l1 l2 S1 S2 := by
  obtain ⟨x1, x2, x3⟩ := R.ne_strs M.e1 M.a1
  obtain ⟨y1, y2, y3⟩ := R.ne_strs M.e2 M.a2
  exact ⟨R.at' d M.ep (fun _ => nofun), d _ _ M.e1 x1 x2 x3, d _ _ M.e2 y1 y2 y3, M.n1, M.n2, M.a1, M.a2, M.b1, M.b2⟩
theorem MenuAt.same {H H' : Hp} {p l1 l2 : Addr} {S1 S2 : List Str} (M : MenuAt H p l1 l2 S1 S2) (s : Same H H') : MenuAt H' p l1 l2 S1 S2 := ⟨s _ _ M.ep, s _ _ M.e1, s _ _ M.e2, M.n1, M.n2, M.a1, M.a2, M.b1, M.b2⟩
end Oh
namespace Oh
open PySem PySem.Spec PyProof.Rows L2 PpSet
def spExprA (K : PySem.W.Frag) : Sp := fun vs H Q E => ∃ n, n ≤ 4 ∧ spExprL K n vs H Q E
def spSimpG (K : PySem.W.Frag) : Sp := fun vs H Q _ => ∃ a c p l1 l2 S1 S2, ∃ kd : Int, vs = [.ref a, .ref p, .int kd] ∧ Src H a c ∧ MenuAt H p l1 l2 S1 S2 ∧
  ∀ v d H', Rp K H' v d → Simp d → NP S1 S2 d → (kd ≠ 0 → headB d = "tell" ∨ headB d = "hear") → Drw a c H H' → Q v H'
section
variable {P : Program} {w : World} {K : PySem.W.Frag} {mg : Str → Option Value} {base : Heap}
abbrev nSm : List Str := ["_law_source_here", "_law_menu_here", "_law_kind", "_law_name_here", "_law_port"]
theorem scSimp : FnScope nSm ["_law_source_here", "_law_menu_here", "_law_kind"] (defScope lSimple) := ⟨rfl, rfl, rfl, by decide +kernel, rfl, by decide +kernel, by decide +kernel⟩
theorem ok_simpG {f fD fE : Addr} {fd fdD fdE : FuncData} (F : Fun K "_law_simple" "_law_simple" lSimple f fd) (T : TxtO mg)
    (GD : FnOk P w K mg base CX0 2 fD fdD ["_law_source_here", "_law_many"] spDraw) (kD : PySem.W.keepIn K (.ref fD) = true) (bD : Binds K fdD ["_law_source_here", "_law_many"] []) (mD : mg "_law_draw" = some (.ref fD))
    (GE : FnOk P w K mg base CX0 7 fE fdE ["_law_source_here", "_law_names", "_law_deep"] (spExprA K)) (kE : PySem.W.keepIn K (.ref fE) = true) (bE : Binds K fdE ["_law_source_here", "_law_names", "_law_deep"] []) (mE : mg "_law_expression" = some (.ref fE)) :
    FnOk P w K mg base CX0 8 f fd ["_law_source_here", "_law_menu_here", "_law_kind"] (spSimpG K) := by
  refine F.ok scSimp (fun vs H Q E h => ?_) (fun cdv A outer s H vs Q E hr h => ?_)
  · obtain ⟨a, c, p, l1, l2, S1, S2, kd, rfl, _⟩ := h
    rfl
  · obtain ⟨a, c, p, l1, l2, S1, S2, kd, rfl, S, M, k⟩ := h
    have hr2 : Room 2 _ := hr.mono (by decide)
    refine ⟨_, (pss_cons (ps_set (i := 3) scSimp.nd rfl (Or.inl rfl) (pe_ix ix_list (pe_ix ix_tup (pv 1) pe_int (fun _ _ => rfl)) (pe_call GD hr2 (by rfl) mD kD bD .nil pass0 (pa_cons (pv 0) (pa_cons (pe_callB call_len_seq (by rfl) T.len boot_len (pa_cons (pe_ix ix_tup (pv 1) pe_int (fun _ _ => rfl)) pa_nil)) pa_nil))) (fun _ _ => rfl)))
      (pss_cons (ps_set (i := 4) scSimp.nd rfl (Or.inl rfl) (pe_ix ix_list (pe_ix ix_tup (pv 1) pe_int (fun _ _ => rfl)) (pe_call GD hr2 (by rfl) mD kD bD .nil pass0 (pa_cons (pv 0) (pa_cons (pe_callB call_len_seq (by rfl) T.len boot_len (pa_cons (pe_ix ix_tup (pv 1) pe_int (fun _ _ => rfl)) pa_nil)) pa_nil))) (fun _ _ => rfl)))
      (pss_cons (ps_if (pt_cmpR op_eq (pv 2) pe_int (nomark _))
        (pss_one (ps_ret (pe_tup (pa_cons pe_str (pa_cons (pv 3) (pa_cons (pe_call GE hr (by rfl) mE kE bE .nil pass0 (pa_cons (pv 0) (pa_cons (pe_ix ix_tup (pv 1) pe_int (fun _ _ => rfl)) (pa_cons pe_int pa_nil)))) pa_nil)))))) pss_nil)
      (pss_cons (ps_if (pt_cmpR op_eq (pv 2) pe_int (nomark _))
        (pss_one (ps_ret (pe_tup (pa_cons pe_str (pa_cons (pv 4) (pa_cons (pv 3) pa_nil)))))) pss_nil)
      (pss_one (ps_ret (pe_tup (pa_cons pe_str (pa_cons (pv 4) (pa_cons (pe_call GE hr (by rfl) mE kE bE .nil pass0 (pa_cons (pv 0) (pa_cons (pe_ix ix_tup (pv 1) pe_int (fun _ _ => rfl)) (pa_cons (pe_op op_add pe_int (pe_call GD hr2 (by rfl) mD kD bD .nil pass0 (pa_cons (pv 0) (pa_cons pe_int pa_nil)))) pa_nil)))) pa_nil)))))))))), ?_⟩
    refine ⟨_, rfl, p, _, _, _, rfl, rfl, SqT.of M.ep, at_of (j := 0) rfl rfl, ?_⟩
    refine ⟨_, rfl, _, rfl, p, _, _, _, rfl, rfl, SqT.of M.ep, at_of (j := 0) rfl rfl, l1, _, rfl, .inl (SqL.of M.e1), a, c, _, rfl, S, ?_, ?_, fun g H1 g0 g1 S1' K1 => ?_⟩
    · rw [List.length_map]; have := M.a1; omega
    · rw [List.length_map]; have := M.a1; have := M.b1; exact log2_small (by omega) (by omega)
    rw [List.length_map] at g1
    obtain ⟨i, rfl⟩ : ∃ i : Nat, g = (i : Int) := ⟨g.toNat, by omega⟩
    have hi : i < S1.length := by omega
    have D1 : Drw a c H H1 := ⟨K1, S1'⟩
    have M1 := M.drw S D1
    refine ⟨l1, _, _, .str S1[i], rfl, rfl, SqL.of M1.e1, atI_nat (by rw [List.getElem?_map, List.getElem?_eq_getElem hi]; rfl), ?_⟩
    refine ⟨_, rfl, p, _, _, _, rfl, rfl, SqT.of M1.ep, at_of (j := 1) rfl rfl, ?_⟩
    refine ⟨_, rfl, _, rfl, p, _, _, _, rfl, rfl, SqT.of M1.ep, at_of (j := 1) rfl rfl, l2, _, rfl, .inl (SqL.of M1.e2), a, c, _, rfl, S1', ?_, ?_, fun g2 H2 g20 g21 S2' K2 => ?_⟩
    · rw [List.length_map]; have := M.a2; omega
    · rw [List.length_map]; have := M.a2; have := M.b2; exact log2_small (by omega) (by omega)
    rw [List.length_map] at g21
    obtain ⟨j, rfl⟩ : ∃ i : Nat, g2 = (i : Int) := ⟨g2.toNat, by omega⟩
    have hj : j < S2.length := by omega
    have D2 : Drw a c H H2 := D1.trans ⟨K2, S2'⟩
    have M2 := M.drw S D2
    refine ⟨l2, _, _, .str S2[j], rfl, rfl, SqL.of M2.e2, atI_nat (by rw [List.getElem?_map, List.getElem?_eq_getElem hj]; rfl), ?_⟩
    have n1 := M.n1 _ (List.getElem_mem hi)
    have n2 := M.n2 _ (List.getElem_mem hj)
    have m1 : S1[i] ∈ S1 := List.getElem_mem hi
    have m2 : S2[j] ∈ S2 := List.getElem_mem hj
    generalize S1[i] = s1 at n1 m1 ⊢
    generalize S2[j] = s2 at n2 m2 ⊢
    refine ⟨_, rfl, rfl, _, rfl, ite2 (fun _ => ?_) (fun z0 => ?_)⟩
    · refine ⟨_, rfl, _, rfl, _, rfl, p, _, _, _, rfl, rfl, SqT.of M2.ep, at_of (j := 0) rfl rfl, 2, by decide, a, c, l1, S1, rfl, S2', M2.e1, M2.n1, M2.a1, M2.b1, fun v d H3 r3 o3 D3 => ⟨by show 3 ≤ sizeLine; decide, fun q nq => ?_⟩⟩
      rename_i z0
      exact k _ (setD s1 d) _ (.tup upd_same (.cons (.str (by decide +kernel)) (.cons (.str (name_small n1)) (.cons (r3.keep (Same.new nq)) .nil)))) (simp_set n1 (o3.ex 4 (by decide))) (np_set m1 (o3.nm 4 (by decide))) (fun z => absurd (V.int.inj (of_decide_eq_true z0)) z) (D2.trans (D3.trans (Drw.of_same D3.s (Same.new nq))))
    refine ⟨_, rfl, rfl, _, rfl, ite2 (fun _ => ?_) (fun _ => ?_)⟩
    · refine ⟨_, rfl, _, rfl, by show 3 ≤ sizeLine; decide, fun q nq => ?_⟩
      exact k _ (hearD s2 s1) _ (.tup upd_same (.cons (.str (by decide +kernel)) (.cons (.str (name_small n2)) (.cons (.str (name_small n1)) .nil)))) (simp_hear n2 n1) (np_hear m2 m1) (fun _ => .inr rfl) (D2.trans (Drw.of_same S2' (Same.new nq)))
    · refine ⟨_, rfl, _, rfl, _, rfl, p, _, _, _, rfl, rfl, SqT.of M2.ep, at_of (j := 0) rfl rfl, ?_⟩
      refine ⟨_, rfl, a, c, 4, rfl, S2', by decide, log2_small (by decide) (by decide), fun e H3 e0 e1 S3 K3 => ?_⟩
      have D3 : Drw a c H2 H3 := ⟨K3, S3⟩
      have M3 := M2.drw S2' D3
      obtain ⟨t, rfl⟩ : ∃ t : Nat, e = (t : Int) := ⟨e.toNat, by omega⟩
      refine ⟨_, _, rfl, rfl, t + 1, by omega, a, c, l1, S1, ?_, S3, M3.e1, M3.n1, M3.a1, M3.b1, fun v d H4 r4 o4 D4 => ⟨by show 3 ≤ sizeLine; decide, fun q nq => ?_⟩⟩
      · exact congrArg (fun z => [V.ref a, V.ref l1, V.int z]) (show (2 : Int) + (t : Int) = ((t + 1 + 1 : Nat) : Int) by omega)
      exact k _ (tellD s2 d) _ (.tup upd_same (.cons (.str (by decide +kernel)) (.cons (.str (name_small n2)) (.cons (r4.keep (Same.new nq)) .nil)))) (simp_tell n2 (o4.ex 4 (by omega))) (np_tell m2 (o4.nm 4 (by omega))) (fun _ => .inl rfl) (D2.trans (D3.trans (D4.trans (Drw.of_same D4.s (Same.new nq)))))
end
end Oh
namespace Oh
open PySem PySem.Spec PyProof.Rows L2 PpSet
def spStmtG (K : PySem.W.Frag) (m : Nat) : Sp := fun vs H Q _ => ∃ a c r p l1 l2 S1 S2, ∃ (n : Nat) (lp : Bool), vs = [.ref a, .ref p, .ref r, .int (m : Int), .bl lp] ∧ Rm H a c r n ∧ n ≤ 1000 ∧ MenuAt H p l1 l2 S1 S2 ∧
  ∀ v d H' n', Rp K H' v d → ItemG S1 S2 m lp d → (∀ k, wtW (cntW k) d + 2 * n' ≤ 2 + 2 * n) → Rm H' a c r n' → Dro a c r H H' → Q v H'
def spBlockG (K : PySem.W.Frag) (m : Nat) : Sp := fun vs H Q _ => ∃ a c r p l1 l2 S1 S2, ∃ (n : Nat) (lp : Bool), vs = [.ref a, .ref p, .ref r, .int (m : Int), .bl lp] ∧ Rm H a c r n ∧ n ≤ 1000 ∧ MenuAt H p l1 l2 S1 S2 ∧
  ∀ v l H' n', Rp K H' v (.tup l) → genR S1 S2 (m + 1) lp (.tup l) → l.length ≤ 3 → (∀ k, cntW k (.tup l) + 2 * n' ≤ 2 * n) → Rm H' a c r n' → Dro a c r H H' → Q v H'
theorem Rm.put {H : Hp} {a c r : Addr} {n k : Nat} (R : Rm H a c r n) : Rm (upd H r (.lst [.int (k : Int)])) a c r k ∧ Dro a c r H (upd H r (.lst [.int (k : Int)])) :=
  ⟨⟨R.src.of_ne R.na.symm R.ne.symm, upd_same, R.ne⟩, fun b o h _ _ nr => by rw [upd_ne nr]; exact h⟩
theorem Rm.updL {H : Hp} {a c r D : Addr} {n : Nat} {o : HO} (R : Rm H a c r n) (ha : D ≠ a) (hc : D ≠ c) (hr : D ≠ r) : Rm (upd H D o) a c r n := ⟨R.src.of_ne ha.symm hc.symm, by rw [upd_ne hr.symm]; exact R.at_, R.ne⟩
theorem Rm.fresh {H : Hp} {a c r D : Addr} {n : Nat} (R : Rm H a c r n) (hD : H D = none) : D ≠ a ∧ D ≠ c ∧ D ≠ r := by
  refine ⟨free_ne R.src.some_a hD, free_ne R.src.some_c hD, fun z => ?_⟩
  subst z
  rw [R.at_] at hD
  cases hD
section
variable {P : Program} {w : World} {K : PySem.W.Frag} {mg : Str → Option Value} {base : Heap}
abbrev nBk : List Str := ["_law_source_here", "_law_menu_here", "_law_room", "_law_depth", "_law_looped", "_law_found", "_law_k"]
abbrev p5 : List Str := ["_law_source_here", "_law_menu_here", "_law_room", "_law_depth", "_law_looped"]
theorem scBlock : FnScope nBk p5 (defScope lBlock) := ⟨rfl, rfl, rfl, by decide +kernel, rfl, by decide +kernel, by decide +kernel⟩
theorem block_step {m j : Nat} {f fD fS : Addr} {fd fdD fdS : FuncData} (F : Fun K "_law_block" "_law_block" lBlock f fd) (T : TxtO mg) (hj : 2 ≤ j)
    (GD : FnOk P w K mg base CX0 2 fD fdD ["_law_source_here", "_law_many"] spDraw) (kD : PySem.W.keepIn K (.ref fD) = true) (bD : Binds K fdD ["_law_source_here", "_law_many"] []) (mD : mg "_law_draw" = some (.ref fD))
    (GS : FnOk P w K mg base CX0 j fS fdS p5 (spStmtG K m)) (kS : PySem.W.keepIn K (.ref fS) = true) (bS : Binds K fdS p5 []) (mS : mg "_law_statement" = some (.ref fS)) :
    FnOk P w K mg base CX0 (j + 1) f fd p5 (spBlockG K m) := by
  refine F.ok scBlock (fun vs H Q E h => ?_) (fun cdv A outer s H vs Q E hr h => ?_)
  · obtain ⟨a, c, r, p, l1, l2, S1, S2, n, lp, rfl, _⟩ := h
    rfl
  · obtain ⟨a, c, r, p, l1, l2, S1, S2, n, lp, rfl, R, hn, M, k⟩ := h
    have hr2 : Room 2 _ := hr.mono hj
    refine ⟨_, (pss_cons (ps_set (i := 5) scBlock.nd rfl (Or.inl rfl) (pe_lst pa_nil))
      (pss_cons (ps_for PassesOwn.never rfl (pi_range1 (by rfl) T.range (pa_cons (pe_call GD hr2 (by rfl) mD kD bD .nil pass0 (pa_cons (pv 0) (pa_cons pe_int pa_nil))) pa_nil)) (pg_name (i := 6) scBlock.nd rfl (Or.inl rfl))
        (pss_one (ps_if (pt_cmpR op_gt (pe_ix ix_list (pv 2) pe_int (fun _ _ => rfl)) pe_int (nomark _))
          (pss_cons (ps_asg (pe_op op_sub (pe_ix ix_list (pv 2) pe_int (fun _ _ => rfl)) pe_int) (pg_sub (pv 2) pe_int set_list))
          (pss_one (ps_expr (pe_bm PySem.F.plainAttrs_list PySem.F.slot_list_append PySem.F.type_list_append mt_append (pv 5) (pa_cons (pe_call GS hr (by rfl) mS kS bS .nil pass0 (pa_cons (pv 0) (pa_cons (pv 1) (pa_cons (pv 2) (pa_cons (pv 3) (pa_cons (pv 4) pa_nil)))))) pa_nil))))) pss_nil)))
      (pss_one (ps_ret (pe_callTy call_tuple_of (by rfl) T.tuple (by decide +kernel) (pa_cons (pv 5) pa_nil)))))), ?_⟩
    refine ⟨by decide, fun L nL => ?_⟩
    obtain ⟨La, Lc, Lr⟩ := R.fresh nL
    have s0 : Same H (upd H L (.lst [])) := Same.new nL
    refine ⟨_, rfl, a, c, 4, rfl, (R.same s0).src, by decide, log2_small (by decide) (by decide), fun g H1 g0 g1 S1' K1 => ?_⟩
    have R1 : Rm H1 a c r n := (R.same s0).drw ⟨K1, S1'⟩
    have D1 : Dro a c r H H1 := (Dro.of_same s0).trans (Dro.of_drw ⟨K1, S1'⟩)
    have hL1 : H1 L = some (.lst []) := K1 _ _ upd_same La Lc
    obtain ⟨N, rfl⟩ : ∃ N : Nat, g = (N : Int) := ⟨g.toNat, by omega⟩
    refine ⟨N, rfl, by omega, by omega, for_range (lo := 0) (n := N) (fun i σ H' => ∃ (x6 : Option V) (n1 : Nat) (xs : List V) (ds : List DT), σ = [some (.ref a), some (.ref p), some (.ref r), some (.int (m : Int)), some (.bl lp), some (.ref L), x6] ∧ H' L = some (.lst xs) ∧ RpAll K H' xs ds ∧ ds.length ≤ i ∧ (∀ d ∈ ds, ItemG S1 S2 m lp d) ∧
        (∀ q, (ds.map (wtW (cntW q))).sum + 2 * n1 ≤ 2 * n) ∧ Rm H' a c r n1 ∧ Dro a c r H H') ⟨_, n, [], [], rfl, hL1, .nil, Nat.le_refl _, (fun d hd => by cases hd), fun q => (by show 0 + 2 * n ≤ 2 * n; omega), R1, D1⟩ ?_ ?_⟩
    · rintro i σ H2 hi ⟨x6, n1, xs, ds, rfl, hL, ra, ld, hd, hc, R2, D2⟩
      refine ⟨_, rfl, r, _, _, _, rfl, rfl, SqL.of R2.at_, rfl, _, _, rfl, rfl, _, rfl, ite2 (fun z => ?_) (fun _ => ?_)⟩
      · have n0 : 0 < n1 := by
          have := of_decide_eq_true z
          omega
        refine ⟨_, rfl, r, _, _, _, rfl, rfl, SqL.of R2.at_, rfl, _, _, rfl, rfl, _, rfl, r, _, _, 0, rfl, rfl, R2.at_, rfl, ?_⟩
        have en : ((n1 : Int) - 1) = ((n1 - 1 : Nat) : Int) := by omega
        obtain ⟨R3, D3⟩ := R2.put (k := n1 - 1)
        have hL3 : upd H2 r (.lst [.int ((n1 - 1 : Nat) : Int)]) L = some (.lst xs) := by rw [upd_ne Lr]; exact hL
        have ra3 : RpAll K (upd H2 r (.lst [.int ((n1 - 1 : Nat) : Int)])) xs ds := RpAll.dro R2 R3 D3 ra
        show tSeq _ _ _ _ (upd H2 r (.lst [.int ((n1 : Int) - 1)])) 
        rw [en]
        generalize upd H2 r (.lst [.int ((n1 - 1 : Nat) : Int)]) = H3 at R3 D3 hL3 ra3 ⊢
        refine ⟨_, rfl, .inl ⟨rfl, _, SqL.of hL3⟩, _, rfl, _, rfl, _, rfl, _, rfl, _, rfl, a, c, r, p, l1, l2, S1, S2, n1 - 1, lp, rfl, R3, ?_, M.dro R (D2.trans D3), fun v d H4 n4 r4 i4 c4 R4 D4 => ⟨L, xs, v, rfl, rfl, D4 _ _ hL3 La Lc Lr, small1000 (by rw [ra.len]; omega), ?_⟩⟩
        · have := hc 0
          omega
        refine ⟨_, n4, xs ++ [v], ds ++ [d], rfl, upd_same, ((RpAll.dro R3 R4 D4 ra3).snoc r4).updL (D4 _ _ hL3 La Lc Lr), by rw [List.length_append]; show ds.length + 1 ≤ i + 1; omega, fun x hx => ?_, fun q => ?_, R4.updL La Lc Lr, fun b o hb na nc nr => ?_⟩
        · rcases List.mem_append.mp hx with hx | hx
          · exact hd x hx
          · rw [List.mem_singleton.mp hx]
            exact i4
        · rw [List.map_append, List.sum_append]
          show _ + (wtW (cntW q) d + 0) + _ ≤ _
          have := hc q
          have := c4 q
          omega
        · rw [upd_ne (ne_of_none hb nL)]
          exact D4 b o (D3 b o (D2 b o hb na nc nr) na nc nr) na nc nr
      · exact ⟨_, n1, xs, ds, rfl, hL, ra, by omega, hd, hc, R2, D2⟩
    · rintro σ H2 ⟨x6, n1, xs, ds, rfl, hL, ra, ld, hd, hc, R2, D2⟩
      refine ⟨_, rfl, L, xs, rfl, .inl ⟨SqL.of hL, fun q nq => ?_⟩⟩
      refine k (.ref q) ds _ n1 (.tup upd_same (ra.keep (Same.new nq))) ⟨decide_eq_true (by omega), hd⟩ (by omega) (fun q => ?_) (R2.same (Same.new nq)) (D2.trans (Dro.of_same (Same.new nq)))
      cases q with
      | zero => exact Nat.le_trans (Nat.add_le_add_right (Nat.zero_le _) _) (hc 0)
      | succ q => exact hc q
end
end Oh
namespace Oh
open PySem PySem.Spec PyProof.Rows L2 PpSet
def cntRow (q : Nat) (x : DT) : Nat := cntW q (argB x 2)
def spRowsG (K : PySem.W.Frag) (m : Nat) : Sp := fun vs H Q _ => ∃ a c r p l1 l2 S1 S2, ∃ (n : Nat) (lp : Bool), vs = [.ref a, .ref p, .ref r, .int (m : Int), .bl lp] ∧ Rm H a c r n ∧ n ≤ 1000 ∧ MenuAt H p l1 l2 S1 S2 ∧
  ∀ v rs H' n', Rp K H' v (.tup rs) → 1 ≤ rs.length → rs.length ≤ 4 → (∀ x ∈ rs, RowG S1 S2 (m + 1) lp x) → (rs.map portB).Nodup → (∀ q, (rs.map (cntRow q)).sum + 2 * n' ≤ 2 * n) → Rm H' a c r n' → Dro a c r H H' → Q v H'
theorem flat_strs (l : List Str) : (l.map V.str).all flatV = true := List.all_eq_true.mpr fun x hx => by
  obtain ⟨s, _, rfl⟩ := List.mem_map.mp hx
  rfl
section
variable {P : Program} {w : World} {K : PySem.W.Frag} {mg : Str → Option Value} {base : Heap}
abbrev nRw : List Str := ["_law_source_here", "_law_menu_here", "_law_room", "_law_depth", "_law_looped", "_law_rows_here", "_law_known", "_law_k", "_law_port", "_law_name_here"]
theorem scRows : FnScope nRw p5 (defScope lRows) := ⟨rfl, rfl, rfl, by decide +kernel, rfl, by decide +kernel, by decide +kernel⟩
theorem rows_step {m j : Nat} {f fD fB : Addr} {fd fdD fdB : FuncData} (F : Fun K "_law_rows" "_law_rows" lRows f fd) (T : TxtO mg) (hj : 2 ≤ j)
    (GD : FnOk P w K mg base CX0 2 fD fdD ["_law_source_here", "_law_many"] spDraw) (kD : PySem.W.keepIn K (.ref fD) = true) (bD : Binds K fdD ["_law_source_here", "_law_many"] []) (mD : mg "_law_draw" = some (.ref fD))
    (GB : FnOk P w K mg base CX0 j fB fdB p5 (spBlockG K m)) (kB : PySem.W.keepIn K (.ref fB) = true) (bB : Binds K fdB p5 []) (mB : mg "_law_block" = some (.ref fB)) :
    FnOk P w K mg base CX0 (j + 1) f fd p5 (spRowsG K m) := by
  refine F.ok scRows (fun vs H Q E h => ?_) (fun cdv A outer s H vs Q E hr h => ?_)
  · obtain ⟨a, c, r, p, l1, l2, S1, S2, n, lp, rfl, _⟩ := h
    rfl
  · obtain ⟨a, c, r, p, l1, l2, S1, S2, n, lp, rfl, R, hn, M, k⟩ := h
    have hr2 : Room 2 _ := hr.mono hj
    refine ⟨_, (pss_cons (ps_set (i := 5) scRows.nd rfl (Or.inl rfl) (pe_lst pa_nil))
      (pss_cons (ps_set (i := 6) scRows.nd rfl (Or.inl rfl) (pe_lst pa_nil))
      (pss_cons (ps_for PassesOwn.never rfl (pi_range1 (by rfl) T.range (pa_cons (pe_op op_add pe_int (pe_call GD hr2 (by rfl) mD kD bD .nil pass0 (pa_cons (pv 0) (pa_cons pe_int pa_nil)))) pa_nil)) (pg_name (i := 7) scRows.nd rfl (Or.inl rfl))
        (pss_cons (ps_set (i := 8) scRows.nd rfl (Or.inl rfl) (pe_ix ix_list (pe_ix ix_tup (pv 1) pe_int (fun _ _ => rfl)) (pe_call GD hr2 (by rfl) mD kD bD .nil pass0 (pa_cons (pv 0) (pa_cons (pe_callB call_len_seq (by rfl) T.len boot_len (pa_cons (pe_ix ix_tup (pv 1) pe_int (fun _ _ => rfl)) pa_nil)) pa_nil))) (fun _ _ => rfl)))
        (pss_cons (ps_set (i := 9) scRows.nd rfl (Or.inl rfl) (pe_ix ix_list (pe_ix ix_tup (pv 1) pe_int (fun _ _ => rfl)) (pe_call GD hr2 (by rfl) mD kD bD .nil pass0 (pa_cons (pv 0) (pa_cons (pe_callB call_len_seq (by rfl) T.len boot_len (pa_cons (pe_ix ix_tup (pv 1) pe_int (fun _ _ => rfl)) pa_nil)) pa_nil))) (fun _ _ => rfl)))
        (pss_one (ps_if (pt_cmpR op_notIn_seq (pv 8) (pv 6) (by rfl))
          (pss_cons (ps_expr (pe_bm PySem.F.plainAttrs_list PySem.F.slot_list_append PySem.F.type_list_append mt_append (pv 6) (pa_cons (pv 8) pa_nil)))
          (pss_one (ps_expr (pe_bm PySem.F.plainAttrs_list PySem.F.slot_list_append PySem.F.type_list_append mt_append (pv 5) (pa_cons (pe_tup (pa_cons (pv 8) (pa_cons (pv 9) (pa_cons (pe_call GB hr (by rfl) mB kB bB .nil pass0 (pa_cons (pv 0) (pa_cons (pv 1) (pa_cons (pv 2) (pa_cons (pv 3) (pa_cons (pv 4) pa_nil)))))) pa_nil)))) pa_nil))))) pss_nil)))))
      (pss_one (ps_ret (pe_callTy call_tuple_of (by rfl) T.tuple (by decide +kernel) (pa_cons (pv 5) pa_nil))))))), ?_⟩
    refine ⟨by decide, fun L nL => ⟨by decide, fun N nN => ?_⟩⟩
    obtain ⟨La, Lc, Lr⟩ := R.fresh nL
    have s0 : Same H (upd H L (.lst [])) := Same.new nL
    have R0 := R.same s0
    obtain ⟨Na, Nc, Nr⟩ := R0.fresh nN
    have LN : L ≠ N := fun z => by
      subst z
      rw [upd_same] at nN
      cases nN
    have s1 : Same (upd H L (.lst [])) (upd (upd H L (.lst [])) N (.lst [])) := Same.new nN
    have nN0 : H N = none := s0.free nN
    have RR := R0.same s1
    have hL0 := s1 _ _ (upd_same (H := H) (a := L) (o := .lst []))
    have hN0 : upd (upd H L (.lst [])) N (.lst []) N = some (.lst []) := upd_same
    have DD : Dro a c r H (upd (upd H L (.lst [])) N (.lst [])) := Dro.of_same (s0.trans s1)
    generalize upd (upd H L (.lst [])) N (.lst []) = H0 at RR hL0 hN0 DD ⊢
    refine ⟨_, rfl, a, c, 4, rfl, RR.src, by decide, log2_small (by decide) (by decide), fun g H1 g0 g1 S1' K1 => ?_⟩
    have R1 : Rm H1 a c r n := RR.drw ⟨K1, S1'⟩
    have D1 : Dro a c r H H1 := DD.trans (Dro.of_drw ⟨K1, S1'⟩)
    have hL1 : H1 L = some (.lst []) := K1 _ _ hL0 La Lc
    have hN1 : H1 N = some (.lst []) := K1 _ _ hN0 Na Nc
    obtain ⟨W, eW⟩ : ∃ W : Nat, (1 : Int) + g = (W : Int) := ⟨(1 + g).toNat, by omega⟩
    refine ⟨_, _, rfl, rfl, (W : Int), congrArg (fun z => [V.int z]) eW, by omega, by omega, for_range (lo := 0) (n := W) (fun i σ H' => ∃ (x7 x8 x9 : Option V) (n1 : Nat) (xs : List V) (rs : List DT), σ = [some (.ref a), some (.ref p), some (.ref r), some (.int (m : Int)), some (.bl lp), some (.ref L), some (.ref N), x7, x8, x9] ∧ H' L = some (.lst xs) ∧
        H' N = some (.lst ((rs.map portB).map V.str)) ∧ RpAll K H' xs rs ∧ rs.length ≤ i ∧ (1 ≤ i → 1 ≤ rs.length) ∧ (∀ x ∈ rs, RowG S1 S2 (m + 1) lp x) ∧ (rs.map portB).Nodup ∧ (∀ q, (rs.map (cntRow q)).sum + 2 * n1 ≤ 2 * n) ∧ Rm H' a c r n1 ∧ Dro a c r H H')
      ⟨_, _, _, n, [], [], rfl, hL1, hN1, .nil, Nat.le_refl _, (fun z => absurd z (by decide)), (fun d hd => by cases hd), .nil, fun q => (by show 0 + 2 * n ≤ 2 * n; omega), R1, D1⟩ ?_ ?_⟩
    · rintro i σ H2 hi ⟨x7, x8, x9, n1, xs, rs, rfl, hL, hN, ra, ld, l1', hd, nd, hc, R2, D2⟩
      have M2 := M.dro R D2
      refine ⟨_, rfl, p, _, _, _, rfl, rfl, SqT.of M2.ep, at_of (j := 1) rfl rfl, ?_⟩
      refine ⟨_, rfl, _, rfl, p, _, _, _, rfl, rfl, SqT.of M2.ep, at_of (j := 1) rfl rfl, l2, _, rfl, .inl (SqL.of M2.e2), a, c, _, rfl, R2.src, ?_, ?_, fun g2 H3 g20 g21 S3' K3 => ?_⟩
      · rw [List.length_map]; have := M.a2; omega
      · rw [List.length_map]; have := M.a2; have := M.b2; exact log2_small (by omega) (by omega)
      rw [List.length_map] at g21
      obtain ⟨jj, rfl⟩ : ∃ i : Nat, g2 = (i : Int) := ⟨g2.toNat, by omega⟩
      have hj : jj < S2.length := by omega
      have d3 : Drw a c H2 H3 := ⟨K3, S3'⟩
      have M3 := M2.drw R2.src d3
      refine ⟨l2, _, _, .str S2[jj], rfl, rfl, SqL.of M3.e2, atI_nat (by rw [List.getElem?_map, List.getElem?_eq_getElem hj]; rfl), ?_⟩
      refine ⟨_, rfl, p, _, _, _, rfl, rfl, SqT.of M3.ep, at_of (j := 0) rfl rfl, ?_⟩
      refine ⟨_, rfl, _, rfl, p, _, _, _, rfl, rfl, SqT.of M3.ep, at_of (j := 0) rfl rfl, l1, _, rfl, .inl (SqL.of M3.e1), a, c, _, rfl, S3', ?_, ?_, fun g3 H4 g30 g31 S4' K4 => ?_⟩
      · rw [List.length_map]; have := M.a1; omega
      · rw [List.length_map]; have := M.a1; have := M.b1; exact log2_small (by omega) (by omega)
      rw [List.length_map] at g31
      obtain ⟨ii, rfl⟩ : ∃ i : Nat, g3 = (i : Int) := ⟨g3.toNat, by omega⟩
      have hii : ii < S1.length := by omega
      have d4 : Drw a c H3 H4 := ⟨K4, S4'⟩
      have M4 := M3.drw S3' d4
      refine ⟨l1, _, _, .str S1[ii], rfl, rfl, SqL.of M4.e1, atI_nat (by rw [List.getElem?_map, List.getElem?_eq_getElem hii]; rfl), ?_⟩
      have d24 := d3.trans d4
      have R4 := R2.drw d24
      have D4 := D2.trans (Dro.of_drw d24)
      have hL4 : H4 L = some (.lst xs) := d24.k _ _ hL La Lc
      have hN4 : H4 N = some (.lst ((rs.map portB).map V.str)) := d24.k _ _ hN Na Nc
      have ra4 := RpAll.drw R2.src d24 ra
      have z1 := M.n1 _ (List.getElem_mem hii)
      have z2 := M.n2 _ (List.getElem_mem hj)
      have m1 : S1[ii] ∈ S1 := List.getElem_mem hii
      have m2 : S2[jj] ∈ S2 := List.getElem_mem hj
      generalize S1[ii] = sn at z1 m1 ⊢
      generalize S2[jj] = sp at z2 m2 ⊢
      refine ⟨_, rfl, _, rfl, N, _, rfl, .inl (SqL.of hN4), rfl, flat_strs _, _, rfl, ?_⟩
      rw [inV_strs]
      refine ite2 (fun z => ?_) (fun z => ?_)
      · have hnew : sp ∉ rs.map portB := fun m => by
          have z : (!decide (sp ∈ rs.map portB)) = true := z
          rw [decide_eq_true m] at z
          cases z
        refine ⟨_, rfl, .inl ⟨rfl, _, SqL.of hN4⟩, _, rfl, N, _, _, rfl, rfl, hN4, small1000 (by rw [List.length_map, List.length_map]; omega), ?_⟩
        have R5 := R4.updL (o := .lst (((rs.map portB).map V.str) ++ [.str sp])) Na Nc Nr
        have hL5 : upd H4 N (.lst (((rs.map portB).map V.str) ++ [.str sp])) L = some (.lst xs) := by rw [upd_ne LN]; exact hL4
        have hN5 : upd H4 N (.lst (((rs.map portB).map V.str) ++ [.str sp])) N = some (.lst (((rs.map portB).map V.str) ++ [.str sp])) := upd_same
        have ra5 := ra4.updL (ys := ((rs.map portB).map V.str) ++ [.str sp]) hN4
        have D5 : Dro a c r H (upd H4 N (.lst (((rs.map portB).map V.str) ++ [.str sp]))) := fun b o hb na nc nr => by
          rw [upd_ne (ne_of_none hb nN0)]
          exact D4 b o hb na nc nr
        generalize upd H4 N (.lst (((rs.map portB).map V.str) ++ [.str sp])) = H5 at R5 hL5 hN5 ra5 D5 ⊢
        refine ⟨_, rfl, .inl ⟨rfl, _, SqL.of hL5⟩, _, rfl, _, rfl, _, rfl, _, rfl, _, rfl, _, rfl, _, rfl, a, c, r, p, l1, l2, S1, S2, n1, lp, rfl, R5, ?_, M.dro R D5, fun v lb H6 n6 r6 g6 b6 c6 R6 D6 => ⟨by show 3 ≤ sizeLine; decide, fun q nq => ?_⟩⟩
        · have := hc 0
          omega
        have s6 : Same H6 (upd H6 q (.tup [.str sp, .str sn, v])) := Same.new nq
        have hL6 := s6 _ _ (D6 _ _ hL5 La Lc Lr)
        have hN6 := s6 _ _ (D6 _ _ hN5 Na Nc Nr)
        refine ⟨L, xs, .ref q, rfl, rfl, hL6, small1000 (by rw [ra.len]; omega), ?_⟩
        have rq : Rp K (upd H6 q (.tup [.str sp, .str sn, v])) (.ref q) (.tup [.str sp, .str sn, .tup lb]) := .tup upd_same (.cons (.str (name_small z2)) (.cons (.str (name_small z1)) (.cons (r6.keep s6) .nil)))
        have ra6 := ((RpAll.dro R5 R6 D6 ra5).keep s6).snoc rq
        refine ⟨_, _, _, n6, xs ++ [.ref q], rs ++ [.tup [.str sp, .str sn, .tup lb]], rfl, upd_same, ?_, ra6.updL hL6, by rw [List.length_append]; show rs.length + 1 ≤ i + 1; omega, fun _ => by rw [List.length_append]; show 1 ≤ rs.length + 1; omega, fun x hx => ?_, ?_, fun q' => ?_, (R6.same s6).updL La Lc Lr, fun b o hb na nc nr => ?_⟩
        · rw [upd_ne LN.symm, hN6, List.map_append, List.map_append]
          rfl
        · rcases List.mem_append.mp hx with hx | hx
          · exact hd x hx
          · rw [List.mem_singleton.mp hx]
            exact ⟨sp, sn, .tup lb, rfl, z2, z1, m2, m1, g6⟩
        · rw [List.map_append]
          refine List.nodup_append.mpr ⟨nd, List.nodup_cons.mpr ⟨List.not_mem_nil, .nil⟩, fun x hx y hy => ?_⟩
          rw [List.mem_singleton.mp hy]
          exact fun e => hnew (by rw [← show portB (.tup [.str sp, .str sn, .tup lb]) = sp from rfl, ← e]; exact hx)
        · rw [List.map_append, List.sum_append]
          show _ + (cntW q' (.tup lb) + 0) + _ ≤ _
          have := hc q'
          have := c6 q'
          omega
        · rw [upd_ne (ne_of_none hb nL)]
          exact s6 _ _ (D6 b o (D5 b o hb na nc nr) na nc nr)
      · refine ⟨_, _, _, n1, xs, rs, rfl, hL4, hN4, ra4, by omega, fun _ => ?_, hd, nd, hc, R4, D4⟩
        have z : ¬ (!decide (sp ∈ rs.map portB)) = true := z
        cases rs with
        | nil => exact absurd rfl z
        | cons x y => rw [List.length_cons]; omega
    · rintro σ H2 ⟨x7, x8, x9, n1, xs, rs, rfl, hL, hN, ra, ld, l1', hd, nd, hc, R2, D2⟩
      refine ⟨_, rfl, L, xs, rfl, .inl ⟨SqL.of hL, fun q nq => ?_⟩⟩
      exact k (.ref q) rs _ n1 (.tup upd_same (ra.keep (Same.new nq))) (l1' (by omega)) (by omega) hd nd hc (R2.same (Same.new nq)) (D2.trans (Dro.of_same (Same.new nq)))
end
end Oh
namespace Oh
open PySem PySem.Spec PyProof.Rows L2 PpSet
def spNestG (K : PySem.W.Frag) (m : Nat) : Sp := fun vs H Q _ => ∃ a c r p l1 l2 S1 S2, ∃ (n : Nat) (lp : Bool), vs = [.ref a, .ref p, .ref r, .int (m : Int), .bl lp] ∧ Rm H a c r n ∧ n ≤ 1000 ∧ MenuAt H p l1 l2 S1 S2 ∧
  ∀ v d H' n', Rp K H' v d → ItemG S1 S2 (m + 1) lp d → (∀ k, wtW (cntW k) d + 2 * n' ≤ 2 + 2 * n) → Rm H' a c r n' → Dro a c r H H' → Q v H'
section
variable {P : Program} {w : World} {K : PySem.W.Frag} {mg : Str → Option Value} {base : Heap}
abbrev nNs : List Str := ["_law_source_here", "_law_menu_here", "_law_room", "_law_depth", "_law_looped", "_law_kind", "_law_test", "_law_first", "_law_blocks", "_law_block_here", "_law_k"]
theorem scNested : FnScope nNs p5 (defScope lNested) := ⟨rfl, rfl, rfl, by decide +kernel, rfl, by decide +kernel, by decide +kernel⟩
theorem nested_step {m j : Nat} {f fD fR fE fB fW fI : Addr} {fd fdD fdR fdE fdB fdW fdI : FuncData} (F : Fun K "_law_nested" "_law_nested" lNested f fd) (T : TxtO mg) (hj : 8 ≤ j) (hjm : m + 2 ≤ j)
    (GD : FnOk P w K mg base CX0 2 fD fdD ["_law_source_here", "_law_many"] spDraw) (kD : PySem.W.keepIn K (.ref fD) = true) (bD : Binds K fdD ["_law_source_here", "_law_many"] []) (mD : mg "_law_draw" = some (.ref fD))
    (GR : FnOk P w K mg base CX0 (j + 1) fR fdR p5 (spRowsG K m)) (kR : PySem.W.keepIn K (.ref fR) = true) (bR : Binds K fdR p5 []) (mR : mg "_law_rows" = some (.ref fR))
    (GE : FnOk P w K mg base CX0 7 fE fdE ["_law_source_here", "_law_names", "_law_deep"] (spExprA K)) (kE : PySem.W.keepIn K (.ref fE) = true) (bE : Binds K fdE ["_law_source_here", "_law_names", "_law_deep"] []) (mE : mg "_law_expression" = some (.ref fE))
    (GB : FnOk P w K mg base CX0 j fB fdB p5 (spBlockG K m)) (kB : PySem.W.keepIn K (.ref fB) = true) (bB : Binds K fdB p5 []) (mB : mg "_law_block" = some (.ref fB))
    (GW : FnOk P w K mg base CX0 (m + 3) fW fdW ["_law_block_here"] (spWays K (m + 1))) (kW : PySem.W.keepIn K (.ref fW) = true) (bW : Binds K fdW ["_law_block_here"] []) (mW : mg "_law_ways" = some (.ref fW))
    (GI : FnOk P w K mg base CX0 8 fI fdI ["_law_source_here", "_law_menu_here", "_law_kind"] (spSimpG K)) (kI : PySem.W.keepIn K (.ref fI) = true) (bI : Binds K fdI ["_law_source_here", "_law_menu_here", "_law_kind"] []) (mI : mg "_law_simple" = some (.ref fI)) :
    FnOk P w K mg base CX0 (j + 2) f fd p5 (spNestG K m) := by
  refine F.ok scNested (fun vs H Q E h => ?_) (fun cdv A outer s H vs Q E hr h => ?_)
  · obtain ⟨a, c, r, p, l1, l2, S1, S2, n, lp, rfl, _⟩ := h
    rfl
  · obtain ⟨a, c, r, p, l1, l2, S1, S2, n, lp, rfl, R, hn, M, k⟩ := h
    have hr2 : Room 2 _ := hr.mono (by omega)
    have hr7 : Room 7 _ := hr.mono (by omega)
    have hr8 : Room 8 _ := hr.mono (by omega)
    have hrb : Room j _ := hr.mono (by omega)
    have hrw : Room (m + 3) _ := hr.mono (by omega)
    refine ⟨_, (pss_cons (ps_set (i := 5) scNested.nd rfl (Or.inl rfl) (pe_call GD hr2 (by rfl) mD kD bD .nil pass0 (pa_cons (pv 0) (pa_cons pe_int pa_nil))))
      (pss_cons (ps_if (pt_cmpR op_eq (pv 5) pe_int (nomark _))
        (pss_one (ps_ret (pe_tup (pa_cons pe_str (pa_cons (pe_call GR hr (by rfl) mR kR bR .nil pass0 (pa_cons (pv 0) (pa_cons (pv 1) (pa_cons (pv 2) (pa_cons (pv 3) (pa_cons (pv 4) pa_nil)))))) pa_nil))))) pss_nil)
      (pss_cons (ps_if (pt_cmpR op_eq (pv 5) pe_int (nomark _))
        (pss_cons (ps_set (i := 6) scNested.nd rfl (Or.inl rfl) (pe_call GE hr7 (by rfl) mE kE bE .nil pass0 (pa_cons (pv 0) (pa_cons (pe_ix ix_tup (pv 1) pe_int (fun _ _ => rfl)) (pa_cons pe_int pa_nil)))))
        (pss_cons (ps_set (i := 7) scNested.nd rfl (Or.inl rfl) (pe_call GB hrb (by rfl) mB kB bB .nil pass0 (pa_cons (pv 0) (pa_cons (pv 1) (pa_cons (pv 2) (pa_cons (pv 3) (pa_cons (pv 4) pa_nil)))))))
        (pss_one (ps_ret (pe_tup (pa_cons pe_str (pa_cons (pv 6) (pa_cons (pv 7) (pa_cons (pe_call GB hrb (by rfl) mB kB bB .nil pass0 (pa_cons (pv 0) (pa_cons (pv 1) (pa_cons (pv 2) (pa_cons (pv 3) (pa_cons (pv 4) pa_nil)))))) pa_nil))))))))) pss_nil)
      (pss_cons (ps_if (pt_cmpR op_lt (pv 5) pe_int (nomark _))
        (pss_cons (ps_setLc (i := 8) (own := [("_law_k", 10)]) (g := gName 10) (tt := tYes) (te := tCall (spBlockG K m) [] E0 (tCons (tVar 0) (tCons (tVar 1) (tCons (tVar 2) (tCons (tVar 3) (tCons (tVar 4) tNil)))))) rfl scNested.nd rfl rfl (sw_true rfl rfl rfl (by decide +kernel)) (pi_range1 (by rfl) T.range (pa_cons (pe_op op_add pe_int (pe_call GD hr2 (by rfl) mD kD bD .nil pass0 (pa_cons (pv 0) (pa_cons pe_int pa_nil)))) pa_nil)) (blkOk_by (N := nNs) (sc := defScope lNested) (by decide +kernel)) (fun _ _ _ _ _ => pg_name (i := 10) scNested.nd rfl (Or.inl rfl)) (fun _ _ _ _ _ => pts_nil) (fun _ _ _ _ _ => by exact (pe_call GB hrb (by rfl) mB kB bB .nil pass0 (pa_cons (pv 0) (pa_cons (pv 1) (pa_cons (pv 2) (pa_cons (pv 3) (pa_cons (pv 4) pa_nil))))))))
        (pss_one (ps_ret (pe_tup (pa_cons pe_str (pa_cons (pe_callTy call_tuple_of (by rfl) T.tuple (by decide +kernel) (pa_cons (pv 8) pa_nil)) pa_nil)))))) pss_nil)
      (pss_cons (ps_set (i := 9) scNested.nd rfl (Or.inl rfl) (pe_call GB hrb (by rfl) mB kB bB .nil pass0 (pa_cons (pv 0) (pa_cons (pv 1) (pa_cons (pv 2) (pa_cons (pv 3) (pa_cons pe_bl pa_nil)))))))
      (pss_cons (ps_if (pt_val (pe_ix ix_tup (pe_call GW hrw (by rfl) mW kW bW .nil pass0 (pa_cons (pv 9) pa_nil)) pe_int (fun _ _ => rfl)))
        (pss_one (ps_set (i := 9) scNested.nd rfl (Or.inl rfl) (pe_op op_catA (pv 9) (pe_tup (pa_cons (pe_call GI hr8 (by rfl) mI kI bI .nil pass0 (pa_cons (pv 0) (pa_cons (pv 1) (pa_cons (pe_op op_add pe_int (pe_call GD hr2 (by rfl) mD kD bD .nil pass0 (pa_cons (pv 0) (pa_cons pe_int pa_nil)))) pa_nil)))) pa_nil))))) pss_nil)
      (pss_one (ps_ret (pe_tup (pa_cons pe_str (pa_cons (pv 9) pa_nil))))))))))), ?_⟩
    refine ⟨_, rfl, a, c, 5, rfl, R.src, by decide, log2_small (by decide) (by decide), fun g H1 g0 g1 S1' K1 => ?_⟩
    have d1 : Drw a c H H1 := ⟨K1, S1'⟩
    have R1 := R.drw d1
    have D1 : Dro a c r H H1 := Dro.of_drw d1
    have M1 := M.dro R D1
    refine ⟨_, rfl, rfl, _, rfl, ite2 (fun _ => ?_) (fun _ => ?_)⟩
    · refine ⟨_, rfl, _, rfl, _, rfl, _, rfl, _, rfl, a, c, r, p, l1, l2, S1, S2, n, lp, rfl, R1, hn, M1, fun v rs H2 n2 r2 h1 h4 hr nd hc R2 D2 => ⟨by show 2 ≤ sizeLine; decide, fun q nq => ?_⟩⟩
      have s2 := Same.new (o := .tup [.str "wait", v]) nq
      have ig := ig_wait h1 h4 hr nd
      refine k _ (waitD rs) _ n2 (.tup upd_same (.cons (.str (by decide +kernel)) (.cons (r2.keep s2) .nil))) ig (fun q => ?_) (R2.same s2) (D1.trans (D2.trans (Dro.of_same s2)))
      rw [wt_of ig.1, blocks_wait, List.map_map]
      have := hc q
      have e : (rs.map (cntW q ∘ fun r => argB r 2)).sum = (rs.map (cntRow q)).sum := rfl
      omega
    refine ⟨_, rfl, rfl, _, rfl, ite2 (fun _ => ?_) (fun _ => ?_)⟩
    · refine ⟨_, rfl, _, rfl, p, _, _, _, rfl, rfl, SqT.of M1.ep, at_of (j := 0) rfl rfl, 2, by decide, a, c, l1, S1, rfl, S1', M1.e1, M1.n1, M1.a1, M1.b1, fun v1 e H2 r2 o2 d2 => ?_⟩
      have R2 := R1.drw d2
      have D2 := D1.trans (Dro.of_drw d2)
      refine ⟨_, rfl, _, rfl, _, rfl, _, rfl, _, rfl, a, c, r, p, l1, l2, S1, S2, n, lp, rfl, R2, hn, M.dro R D2, fun v3 b H3 n3 r3 g3 _ c3 R3 D3 => ?_⟩
      refine ⟨_, rfl, _, rfl, _, rfl, _, rfl, _, rfl, _, rfl, _, rfl, a, c, r, p, l1, l2, S1, S2, n3, lp, rfl, R3, ?_, M.dro R (D2.trans D3), fun v4 b4 H4 n4 r4 g4 _ c4 R4 D4 => ⟨by show 4 ≤ sizeLine; decide, fun q nq => ?_⟩⟩
      · have := c3 0
        omega
      have s4 := Same.new (o := .tup [.str "if", v1, v3, v4]) nq
      have ig := ig_if (exo_up o2 (by decide)) g3 g4
      refine k _ (ifD e (.tup b) (.tup b4)) _ n4 (.tup upd_same (.cons (.str (by decide +kernel)) (.cons ((Rp.dro R3 R4 D4 (Rp.dro R2 R3 D3 r2)).keep s4) (.cons ((Rp.dro R3 R4 D4 r3).keep s4) (.cons (r4.keep s4) .nil))))) ig (fun q => ?_) (R4.same s4) (D2.trans (D3.trans (D4.trans (Dro.of_same s4))))
      rw [wt_of ig.1, blocks_if]
      show 1 + (cntW q (.tup b) + (cntW q (.tup b4) + 0)) + _ ≤ _
      have := c3 q
      have := c4 q
      omega
    refine ⟨_, rfl, _, _, rfl, rfl, _, rfl, ite2 (fun _ => ?_) (fun _ => ?_)⟩
    · refine ⟨_, rfl, a, c, 4, rfl, S1', by decide, log2_small (by decide) (by decide), fun e H2 e0 e1 S2' K2 => ?_⟩
      have d2 : Drw a c H1 H2 := ⟨K2, S2'⟩
      have R2 := R1.drw d2
      have D2 := D1.trans (Dro.of_drw d2)
      obtain ⟨N, eN⟩ : ∃ N : Nat, (1 : Int) + e = (N : Int) := ⟨(1 + e).toNat, by omega⟩
      refine ⟨_, _, rfl, rfl, (N : Int), congrArg (fun z => [V.int z]) eN, by omega, by omega, fun D hD => lc_range (lo := 0) (n := N) (fun i H' => ∃ (n1 : Nat) (xs : List V) (ds : List DT), H' D = some (.lst xs) ∧ RpAll K H' xs ds ∧ ds.length = i ∧ (∀ d ∈ ds, genR S1 S2 (m + 1) lp d) ∧ (∀ q, (ds.map (cntW q)).sum + 2 * n1 ≤ 2 * n) ∧ Rm H' a c r n1 ∧ Dro a c r H H')
        ⟨n, [], [], upd_same, .nil, rfl, (fun d hd => by cases hd), fun q => (by show 0 + 2 * n ≤ 2 * n; omega), R2.same (Same.new hD), D2.trans (Dro.of_same (Same.new hD))⟩ ?_ ?_⟩
      · rintro i H3 hi ⟨n1, xs, ds, h1, ra, ld, hd, hc, R3, D3⟩
        obtain ⟨Da, Dc, Dr⟩ := R2.fresh hD
        refine ⟨rfl, _, rfl, _, rfl, _, rfl, _, rfl, _, rfl, a, c, r, p, l1, l2, S1, S2, n1, lp, rfl, R3, ?_, M.dro R D3, fun v b H4 n4 r4 g4 _ c4 R4 D4 => ?_⟩
        · have := hc 0
          omega
        have hD4 := D4 _ _ h1 Da Dc Dr
        refine ⟨xs, hD4, small1000 (by rw [ra.len]; omega), n4, xs ++ [v], ds ++ [.tup b], upd_same, ((RpAll.dro R3 R4 D4 ra).snoc r4).updL hD4, by rw [List.length_append, ld]; rfl, fun x hx => ?_, fun q => ?_, R4.updL Da Dc Dr, fun b' o hb na nc nr => ?_⟩
        · rcases List.mem_append.mp hx with hx | hx
          · exact hd x hx
          · rw [List.mem_singleton.mp hx]
            exact g4
        · rw [List.map_append, List.sum_append]
          show _ + (cntW q (.tup b) + 0) + _ ≤ _
          have := hc q
          have := c4 q
          omega
        · rw [upd_ne (ne_of_none (d2.k _ _ (d1.k _ _ hb na nc) na nc) hD)]
          exact D4 b' o (D3 b' o hb na nc nr) na nc nr
      · rintro H3 ⟨n1, xs, ds, h1, ra, ld, hd, hc, R3, D3⟩
        refine ⟨_, rfl, D, xs, rfl, .inl ⟨SqL.of h1, fun u nu => ⟨by show 2 ≤ sizeLine; decide, fun q nq => ?_⟩⟩⟩
        have s3 := Same.new (o := .tup xs) nu
        have s4 := Same.new (o := .tup [.str "open", .ref u]) nq
        have ig := ig_open (S1 := S1) (S2 := S2) (m := m + 1) (lp := lp) (bs := ds) (by omega) (by omega) hd
        refine k _ (openD ds) _ n1 (.tup upd_same (.cons (.str (by decide +kernel)) (.cons ((Rp.tup upd_same (ra.keep s3)).keep s4) .nil))) ig (fun q => ?_) (R3.same (s3.trans s4)) (D3.trans (Dro.of_same (s3.trans s4)))
        rw [wt_of ig.1, blocks_open]
        have := hc q
        omega
    · have fin : ∀ (u : V) (l' : List DT) (H' : Hp) (n' : Nat), Rp K H' u (.tup l') → genR S1 S2 (m + 1) true (.tup l') → (quietW (m + 1) (.tup l')).1 = false → (∀ q, cntW q (.tup l') + 2 * n' ≤ 1 + 2 * n) → Rm H' a c r n' → Dro a c r H H' → ∀ w, H' w = none → Q (.ref w) (upd H' w (.tup [.str "repeat", u])) := fun u l' H' n' ru gu qu cu Ru Du w nw => by
        have s4 := Same.new (o := .tup [.str "repeat", u]) nw
        have ig := ig_rep (lp := lp) gu qu
        refine k _ (repD (.tup l')) _ n' (.tup upd_same (.cons (.str (by decide +kernel)) (.cons (ru.keep s4) .nil))) ig (fun q => ?_) (Ru.same s4) (Du.trans (Dro.of_same s4))
        rw [wt_of ig.1, blocks_rep]
        show 1 + (cntW q (.tup l') + 0) + _ ≤ _
        have := cu q
        omega
      refine ⟨_, rfl, _, rfl, _, rfl, _, rfl, a, c, r, p, l1, l2, S1, S2, n, true, rfl, R1, hn, M1, fun v lb H2 n2 r2 g2 b2 c2 R2 D2 => ?_⟩
      refine ⟨_, rfl, v, .tup lb, rfl, r2, gen_good g2, fun pq H3 ⟨s3, np3, hp3⟩ => ⟨pq, _, _, _, rfl, rfl, SqT.of hp3, at_of (j := 0) rfl rfl, _, rfl, ?_⟩⟩
      have R3 := R2.same s3
      have r3 := r2.keep s3
      have D3 := D1.trans (D2.trans (Dro.of_same s3))
      cases hq : (quietW (m + 1) (.tup lb)).1 with
      | false => exact iteF ⟨_, rfl, by show 2 ≤ sizeLine; decide, fun w nw => fin v lb H3 n2 r3 g2 hq (fun q => by have := c2 q; omega) R3 D3 w nw⟩
      | true =>
        refine iteT ⟨_, rfl, _, rfl, _, rfl, _, rfl, a, c, 2, rfl, R3.src, by decide, log2_small (by decide) (by decide), fun e H4 e0 e1 S4 K4 => ?_⟩
        have d4 : Drw a c H3 H4 := ⟨K4, S4⟩
        have R4 := R3.drw d4
        have D4 := D3.trans (Dro.of_drw d4)
        refine ⟨_, _, rfl, rfl, a, c, p, l1, l2, S1, S2, 1 + e, rfl, S4, M.dro R D4, fun v5 d5 H5 r5 sm5 np5 hd5 d5' => ⟨by show 1 ≤ sizeLine; decide, fun t nt => ?_⟩⟩
        have s6 := Same.new (o := .tup [v5]) nt
        have R6 := (R4.drw d5').same s6
        have D6 := D4.trans ((Dro.of_drw d5').trans (Dro.of_same s6))
        have r6 : Rp K (upd H5 t (.tup [v5])) v (.tup lb) := (Rp.drw S4 d5' (Rp.drw R3.src d4 r3)).keep s6
        have ht : upd H5 t (.tup [v5]) t = some (.tup [v5]) := upd_same
        have rt : RpAll K (upd H5 t (.tup [v5])) [v5] [d5] := .cons (r5.keep s6) .nil
        generalize upd H5 t (.tup [v5]) = H6 at R6 D6 r6 ht rt ⊢
        obtain ⟨pb, xb, rfl, hpb, rab⟩ := r6.tup_inv
        have gn : genR S1 S2 (m + 1) true (.tup (lb ++ [d5])) := gen_snoc g2 (by omega) (ig_simp sm5 np5)
        have qn : (quietW (m + 1) (.tup (lb ++ [d5]))).1 = false := quiet_snoc sm5 (hd5 (by omega))
        have cn : ∀ q, cntW q (.tup (lb ++ [d5])) + 2 * n2 ≤ 1 + 2 * n := fun q => by
          have := cnt_snoc (k := q) (l := lb) (t := d5)
          rw [wt_simp sm5] at this
          have := c2 q
          omega
        refine ⟨pb, t, xb, [v5], rfl, rfl, SqT.of hpb, SqT.of ht, small9 (by rw [rab.len]; show lb.length + 1 ≤ 1000; omega), fun z => ?_, fun _ z => (by cases z), fun _ _ u nu => ?_⟩
        · subst z
          have : lb = [] := List.eq_nil_of_length_eq_zero rab.len.symm
          subst this
          exact ⟨_, rfl, by show 2 ≤ sizeLine; decide, fun w nw => fin (.ref t) _ H6 n2 (.tup ht rt) gn qn cn R6 D6 w nw⟩
        · exact ⟨_, rfl, by show 2 ≤ sizeLine; decide, fun w nw => fin (.ref u) _ _ n2 (.tup upd_same ((rab.append rt).keep (Same.new nu))) gn qn cn (R6.same (Same.new nu)) (D6.trans (Dro.of_same (Same.new nu))) w nw⟩
end
end Oh
namespace Oh
open PySem PySem.Spec PyProof.Rows L2 PpSet
def spNestP (K : PySem.W.Frag) : Nat → Sp
  | 0 => fun _ _ _ _ => False
  | m + 1 => spNestG K m
section
variable {P : Program} {w : World} {K : PySem.W.Frag} {mg : Str → Option Value} {base : Heap}
abbrev nSt : List Str := ["_law_source_here", "_law_menu_here", "_law_room", "_law_depth", "_law_looped", "_law_kind"]
theorem scStatement : FnScope nSt p5 (defScope lStatement) := ⟨rfl, rfl, rfl, by decide +kernel, rfl, by decide +kernel, by decide +kernel⟩
theorem stmt_step {m j : Nat} {f fD fX fI : Addr} {fd fdD fdX fdI : FuncData} (F : Fun K "_law_statement" "_law_statement" lStatement f fd) (hj : 8 ≤ j)
    (GD : FnOk P w K mg base CX0 2 fD fdD ["_law_source_here", "_law_many"] spDraw) (kD : PySem.W.keepIn K (.ref fD) = true) (bD : Binds K fdD ["_law_source_here", "_law_many"] []) (mD : mg "_law_draw" = some (.ref fD))
    (GX : FnOk P w K mg base CX0 j fX fdX p5 (spNestP K m)) (kX : PySem.W.keepIn K (.ref fX) = true) (bX : Binds K fdX p5 []) (mX : mg "_law_nested" = some (.ref fX))
    (GI : FnOk P w K mg base CX0 8 fI fdI ["_law_source_here", "_law_menu_here", "_law_kind"] (spSimpG K)) (kI : PySem.W.keepIn K (.ref fI) = true) (bI : Binds K fdI ["_law_source_here", "_law_menu_here", "_law_kind"] []) (mI : mg "_law_simple" = some (.ref fI)) :
    FnOk P w K mg base CX0 (j + 1) f fd p5 (spStmtG K m) := by
  refine F.ok scStatement (fun vs H Q E h => ?_) (fun cdv A outer s H vs Q E hr h => ?_)
  · obtain ⟨a, c, r, p, l1, l2, S1, S2, n, lp, rfl, _⟩ := h
    rfl
  · obtain ⟨a, c, r, p, l1, l2, S1, S2, n, lp, rfl, R, hn, M, k⟩ := h
    have hr2 : Room 2 _ := hr.mono (by omega)
    have hr8 : Room 8 _ := hr.mono (by omega)
    refine ⟨_, (pss_cons (ps_set (i := 5) scStatement.nd rfl (Or.inl rfl) (pe_call GD hr2 (by rfl) mD kD bD .nil pass0 (pa_cons (pv 0) (pa_cons pe_int pa_nil))))
      (pss_cons (ps_if (pt_cmpR op_eq (pv 5) pe_int (nomark _))
        (pss_one (ps_ret (pe_ix ix_list (pe_lst (pa_cons (pe_tup (pa_cons pe_str pa_nil)) (pa_cons (pe_tup (pa_cons pe_str pa_nil)) pa_nil))) (pe_call GD hr2 (by rfl) mD kD bD .nil pass0 (pa_cons (pv 0) (pa_cons pe_int pa_nil))) (fun _ _ => rfl)))) pss_nil)
      (pss_cons (ps_if (pw_and (pt_cmpR op_eq (pv 5) pe_int (nomark _)) (pw_and1 (pt_val (pv 4)))).pt
        (pss_one (ps_ret (pe_tup (pa_cons pe_str pa_nil)))) pss_nil)
      (pss_cons (ps_if (pw_and (pt_cmpR op_lt (pv 5) pe_int (nomark _)) (pw_and1 (pt_cmpR op_gt (pv 3) pe_int (nomark _)))).pt
        (pss_one (ps_ret (pe_call GX hr (by rfl) mX kX bX .nil pass0 (pa_cons (pv 0) (pa_cons (pv 1) (pa_cons (pv 2) (pa_cons (pe_op op_sub (pv 3) pe_int) (pa_cons (pv 4) pa_nil)))))))) pss_nil)
      (pss_one (ps_ret (pe_call GI hr8 (by rfl) mI kI bI .nil pass0 (pa_cons (pv 0) (pa_cons (pv 1) (pa_cons (pe_op op_mod (pv 5) pe_int) pa_nil)))))))))), ?_⟩
    refine ⟨_, rfl, a, c, 14, rfl, R.src, by decide, log2_small (by decide) (by decide), fun g H1 g0 g1 S1' K1 => ?_⟩
    have d1 : Drw a c H H1 := ⟨K1, S1'⟩
    have R1 := R.drw d1
    have D1 : Dro a c r H H1 := Dro.of_drw d1
    have M1 := M.dro R D1
    refine ⟨_, rfl, rfl, _, rfl, ite2 (fun _ => ?_) (fun _ => ?_)⟩
    · dsimp only [tRet]
      refine ix_drawn (K := K) (ds := [homeD, failD]) S1' (eva_cons (ev_tup (eva_cons ev_str eva_nil)) (eva_cons (ev_tup (eva_cons ev_str eva_nil)) eva_nil)) rfl rfl (by decide) (by decide) fun i hi v H2 r2 d2 => ?_
      have R2 := R1.drw d2
      have fin : ∀ d, Simp d → NP S1 S2 d → Rp K H2 v d → Q v H2 := fun d sd nd rd => k v d H2 n rd (ig_simp sd nd) (fun q => by rw [wt_simp sd]; omega) R2 (D1.trans (Dro.of_drw d2))
      match i, hi with
      | 0, _ => exact fin homeD simp_home (np_other (by decide) (by decide) (by decide) (by decide) (by decide)) r2
      | 1, _ => exact fin failD simp_fail (np_other (by decide) (by decide) (by decide) (by decide) (by decide)) r2
    refine ⟨_, rfl, rfl, _, rfl, ite2 (fun _ => ⟨_, rfl, _, rfl, ?_⟩) (fun _ => iteF ?_)⟩
    · cases lp with
      | true =>
        refine iteT ⟨by show 1 ≤ sizeLine; decide, fun q nq => ?_⟩
        exact k _ leaveD _ n (.tup upd_same (.cons (.str (by decide +kernel)) .nil)) ig_leave (fun q => by rw [wt_leave]; omega) (R1.same (Same.new nq)) (D1.trans (Dro.of_same (Same.new nq)))
      | false =>
        refine iteF ?_
        refine ⟨_, rfl, _, _, rfl, rfl, _, rfl, ite2 (fun _ => ⟨_, rfl, _, _, rfl, rfl, _, rfl, ite2 (fun h0 => ?_) (fun _ => ?_)⟩) (fun _ => iteF ?_)⟩
        · obtain ⟨m', rfl⟩ : ∃ m', m = m' + 1 := ⟨m - 1, by have := of_decide_eq_true h0; omega⟩
          have em : ((m' + 1 : Nat) : Int) - 1 = (m' : Int) := by omega
          exact ⟨_, rfl, _, rfl, _, rfl, _, rfl, _, _, rfl, rfl, _, rfl, a, c, r, p, l1, l2, S1, S2, n, _, congrArg (fun z => [V.ref a, V.ref p, V.ref r, V.int z, V.bl _]) em, R1, hn, M1, fun v d H2 n2 r2 i2 c2 R2 D2 => k v d H2 n2 r2 i2 c2 R2 (D1.trans D2)⟩
        all_goals
          exact ⟨_, rfl, _, rfl, _, rfl, _, _, rfl, rfl, by show (0 : Int) < 3; decide, a, c, p, l1, l2, S1, S2, _, rfl, S1', M1, fun v d H2 r2 s2 n2 _ d2 => k v d H2 n r2 (ig_simp s2 n2) (fun q => by rw [wt_simp s2]; omega) (R1.drw d2) (D1.trans (Dro.of_drw d2))⟩
    · refine ⟨_, rfl, _, _, rfl, rfl, _, rfl, ite2 (fun _ => ⟨_, rfl, _, _, rfl, rfl, _, rfl, ite2 (fun h0 => ?_) (fun _ => ?_)⟩) (fun _ => iteF ?_)⟩
      · obtain ⟨m', rfl⟩ : ∃ m', m = m' + 1 := ⟨m - 1, by have := of_decide_eq_true h0; omega⟩
        have em : ((m' + 1 : Nat) : Int) - 1 = (m' : Int) := by omega
        exact ⟨_, rfl, _, rfl, _, rfl, _, rfl, _, _, rfl, rfl, _, rfl, a, c, r, p, l1, l2, S1, S2, n, _, congrArg (fun z => [V.ref a, V.ref p, V.ref r, V.int z, V.bl _]) em, R1, hn, M1, fun v d H2 n2 r2 i2 c2 R2 D2 => k v d H2 n2 r2 i2 c2 R2 (D1.trans D2)⟩
      all_goals
        exact ⟨_, rfl, _, rfl, _, rfl, _, _, rfl, rfl, by show (0 : Int) < 3; decide, a, c, p, l1, l2, S1, S2, _, rfl, S1', M1, fun v d H2 r2 s2 n2 _ d2 => k v d H2 n r2 (ig_simp s2 n2) (fun q => by rw [wt_simp s2]; omega) (R1.drw d2) (D1.trans (Dro.of_drw d2))⟩
theorem ok_stmt0 : True := trivial
end
end Oh
namespace Oh
open PySem PySem.Spec PyProof.Rows L2 PpSet
def spStmtA (K : PySem.W.Frag) : Sp := fun vs H Q E => ∃ m, m ≤ 5 ∧ spStmtG K m vs H Q E
def spBlockA (K : PySem.W.Frag) : Sp := fun vs H Q E => ∃ m, m ≤ 5 ∧ spBlockG K m vs H Q E
def spWaysA (K : PySem.W.Frag) : Sp := fun vs H Q E => ∃ m, m ≤ 6 ∧ spWays K m vs H Q E
def spTop (K : PySem.W.Frag) : Sp := fun vs H Q _ => ∃ a c p l1 l2 S1 S2, vs = [.ref a, .ref p] ∧ Src H a c ∧ MenuAt H p l1 l2 S1 S2 ∧
  ∀ v l H', Rp K H' v (.tup l) → genR S1 S2 7 false (.tup l) → 1 ≤ l.length → l.length ≤ 5 → (∀ q, cntW q (.tup l) ≤ 100) → Drw a c H H' → Q v H'
section
variable {P : Program} {w : World} {K : PySem.W.Frag} {mg : Str → Option Value} {base : Heap}
structure GenF (P : Program) (w : World) (K : PySem.W.Frag) (mg : Str → Option Value) (base : Heap) (fD fS fB fR fX fE fW fI : Addr) (fdD fdS fdB fdR fdX fdE fdW fdI : FuncData) : Prop where
  T : TxtO mg
  GD : FnOk P w K mg base CX0 2 fD fdD ["_law_source_here", "_law_many"] spDraw
  kD : PySem.W.keepIn K (.ref fD) = true
  bD : Binds K fdD ["_law_source_here", "_law_many"] []
  mD : mg "_law_draw" = some (.ref fD)
  FS : Fun K "_law_statement" "_law_statement" lStatement fS fdS
  bS : Binds K fdS p5 []
  mS : mg "_law_statement" = some (.ref fS)
  FB : Fun K "_law_block" "_law_block" lBlock fB fdB
  bB : Binds K fdB p5 []
  mB : mg "_law_block" = some (.ref fB)
  FR : Fun K "_law_rows" "_law_rows" lRows fR fdR
  bR : Binds K fdR p5 []
  mR : mg "_law_rows" = some (.ref fR)
  FX : Fun K "_law_nested" "_law_nested" lNested fX fdX
  bX : Binds K fdX p5 []
  mX : mg "_law_nested" = some (.ref fX)
  GE : FnOk P w K mg base CX0 7 fE fdE ["_law_source_here", "_law_names", "_law_deep"] (spExprA K)
  kE : PySem.W.keepIn K (.ref fE) = true
  bE : Binds K fdE ["_law_source_here", "_law_names", "_law_deep"] []
  mE : mg "_law_expression" = some (.ref fE)
  GW : ∀ m, FnOk P w K mg base CX0 (m + 2) fW fdW ["_law_block_here"] (spWays K m)
  kW : PySem.W.keepIn K (.ref fW) = true
  bW : Binds K fdW ["_law_block_here"] []
  mW : mg "_law_ways" = some (.ref fW)
  GI : FnOk P w K mg base CX0 8 fI fdI ["_law_source_here", "_law_menu_here", "_law_kind"] (spSimpG K)
  kI : PySem.W.keepIn K (.ref fI) = true
  bI : Binds K fdI ["_law_source_here", "_law_menu_here", "_law_kind"] []
  mI : mg "_law_simple" = some (.ref fI)
variable {fD fS fB fR fX fE fW fI : Addr} {fdD fdS fdB fdR fdX fdE fdW fdI : FuncData}
theorem gen_b {m : Nat} (G : GenF P w K mg base fD fS fB fR fX fE fW fI fdD fdS fdB fdR fdX fdE fdW fdI) (S : FnOk P w K mg base CX0 (9 + 4 * m) fS fdS p5 (spStmtG K m)) : FnOk P w K mg base CX0 (9 + 4 * m + 1) fB fdB p5 (spBlockG K m) :=
  block_step G.FB G.T (by omega) G.GD G.kD G.bD G.mD S G.FS.kp G.bS G.mS
theorem gen_s (G : GenF P w K mg base fD fS fB fR fX fE fW fI fdD fdS fdB fdR fdX fdE fdW fdI) : ∀ m, FnOk P w K mg base CX0 (9 + 4 * m) fS fdS p5 (spStmtG K m)
  | 0 => stmt_step (m := 0) (j := 8) G.FS (by omega) G.GD G.kD G.bD G.mD never_ok G.FX.kp G.bX G.mX G.GI G.kI G.bI G.mI
  | m + 1 => by
    have B := gen_b G (gen_s G m)
    have R : FnOk P w K mg base CX0 (9 + 4 * m + 1 + 1) fR fdR p5 (spRowsG K m) := rows_step G.FR G.T (by omega) G.GD G.kD G.bD G.mD B G.FB.kp G.bB G.mB
    have X : FnOk P w K mg base CX0 (9 + 4 * m + 1 + 2) fX fdX p5 (spNestG K m) := nested_step G.FX G.T (by omega) (by omega) G.GD G.kD G.bD G.mD R G.FR.kp G.bR G.mR G.GE G.kE G.bE G.mE B G.FB.kp G.bB G.mB (G.GW (m + 1)) G.kW G.bW G.mW G.GI G.kI G.bI G.mI
    exact (stmt_step (m := m + 1) (j := 9 + 4 * m + 1 + 2) G.FS (by omega) G.GD G.kD G.bD G.mD X G.FX.kp G.bX G.mX G.GI G.kI G.bI G.mI).mono (by omega)
theorem gen_stmtA (G : GenF P w K mg base fD fS fB fR fX fE fW fI fdD fdS fdB fdR fdX fdE fdW fdI) : FnOk P w K mg base CX0 29 fS fdS p5 (spStmtA K) := FnOk_any fun m hm => (gen_s G m).mono (by omega)
theorem gen_blockA (G : GenF P w K mg base fD fS fB fR fX fE fW fI fdD fdS fdB fdR fdX fdE fdW fdI) : FnOk P w K mg base CX0 30 fB fdB p5 (spBlockA K) := FnOk_any fun m hm => (gen_b G (gen_s G m)).mono (by omega)
theorem gen_waysA (G : GenF P w K mg base fD fS fB fR fX fE fW fI fdD fdS fdB fdR fdX fdE fdW fdI) : FnOk P w K mg base CX0 8 fW fdW ["_law_block_here"] (spWaysA K) := FnOk_any fun m hm => (G.GW m).mono (by omega)
abbrev nTp : List Str := ["_law_source_here", "_law_menu_here", "_law_room", "_law_depth", "_law_found", "_law_k", "_law_block_here"]
theorem scTop : FnScope nTp ["_law_source_here", "_law_menu_here"] (defScope lTop) := ⟨rfl, rfl, rfl, by decide +kernel, rfl, by decide +kernel, by decide +kernel⟩
theorem ok_top {f : Addr} {fd : FuncData} (F : Fun K "_law_top" "_law_top" lTop f fd) (G : GenF P w K mg base fD fS fB fR fX fE fW fI fdD fdS fdB fdR fdX fdE fdW fdI) :
    FnOk P w K mg base CX0 31 f fd ["_law_source_here", "_law_menu_here"] (spTop K) := by
  refine F.ok scTop (fun vs H Q E h => ?_) (fun cdv A outer s H vs Q E hr h => ?_)
  · obtain ⟨a, c, p, l1, l2, S1, S2, rfl, _⟩ := h
    rfl
  · obtain ⟨a, c, p, l1, l2, S1, S2, rfl, S, M, k⟩ := h
    have hr2 : Room 2 _ := hr.mono (by omega)
    have hr8 : Room 8 _ := hr.mono (by omega)
    have hrs : Room 29 _ := hr.mono (by omega)
    have GS := gen_stmtA G
    have GB := gen_blockA G
    have GW := gen_waysA G
    obtain ⟨T, GD, kD, bD, mD, FS, bS, mS, FB, bB, mB, FR, bR, mR, FX, bX, mX, GE, kE, bE, mE, _, kW, bW, mW, GI, kI, bI, mI⟩ := G
    have kS := FS.kp
    have kB := FB.kp
    refine ⟨_, (pss_cons (ps_set (i := 2) scTop.nd rfl (Or.inl rfl) (pe_lst (pa_cons (pe_op op_add pe_int (pe_call GD hr2 (by rfl) mD kD bD .nil pass0 (pa_cons (pv 0) (pa_cons pe_int pa_nil)))) pa_nil)))
      (pss_cons (ps_set (i := 3) scTop.nd rfl (Or.inl rfl) (pe_op op_add pe_int (pe_call GD hr2 (by rfl) mD kD bD .nil pass0 (pa_cons (pv 0) (pa_cons pe_int pa_nil)))))
      (pss_cons (ps_set (i := 4) scTop.nd rfl (Or.inl rfl) (pe_lst pa_nil))
      (pss_cons (ps_for PassesOwn.never rfl (pi_range1 (by rfl) T.range (pa_cons (pe_op op_add pe_int (pe_call GD hr2 (by rfl) mD kD bD .nil pass0 (pa_cons (pv 0) (pa_cons pe_int pa_nil)))) pa_nil)) (pg_name (i := 5) scTop.nd rfl (Or.inl rfl))
        (pss_one (ps_expr (pe_bm PySem.F.plainAttrs_list PySem.F.slot_list_append PySem.F.type_list_append mt_append (pv 4) (pa_cons (pe_call GS hrs (by rfl) mS kS bS .nil pass0 (pa_cons (pv 0) (pa_cons (pv 1) (pa_cons (pv 2) (pa_cons (pv 3) (pa_cons pe_bl pa_nil)))))) pa_nil)))))
      (pss_cons (ps_if (pt_cmpR op_eq (pe_call GD hr2 (by rfl) mD kD bD .nil pass0 (pa_cons (pv 0) (pa_cons pe_int pa_nil))) pe_int (nomark _))
        (pss_cons (ps_set (i := 6) scTop.nd rfl (Or.inl rfl) (pe_call GB hr (by rfl) mB kB bB .nil pass0 (pa_cons (pv 0) (pa_cons (pv 1) (pa_cons (pv 2) (pa_cons (pv 3) (pa_cons pe_bl pa_nil)))))))
        (pss_cons (ps_if (pt_val (pe_ix ix_tup (pe_call GW hr8 (by rfl) mW kW bW .nil pass0 (pa_cons (pv 6) pa_nil)) pe_int (fun _ _ => rfl)))
          (pss_one (ps_set (i := 6) scTop.nd rfl (Or.inl rfl) (pe_op op_catA (pv 6) (pe_tup (pa_cons (pe_call GI hr8 (by rfl) mI kI bI .nil pass0 (pa_cons (pv 0) (pa_cons (pv 1) (pa_cons (pe_op op_add pe_int (pe_call GD hr2 (by rfl) mD kD bD .nil pass0 (pa_cons (pv 0) (pa_cons pe_int pa_nil)))) pa_nil)))) pa_nil))))) pss_nil)
        (pss_one (ps_expr (pe_bm PySem.F.plainAttrs_list PySem.F.slot_list_append PySem.F.type_list_append mt_append (pv 4) (pa_cons (pe_tup (pa_cons pe_str (pa_cons (pv 6) pa_nil))) pa_nil)))))) pss_nil)
      (pss_one (ps_ret (pe_callTy call_tuple_of (by rfl) T.tuple (by decide +kernel) (pa_cons (pv 4) pa_nil))))))))), ?_⟩
    refine ⟨_, rfl, a, c, 32, rfl, S, by decide, log2_small (by decide) (by decide), fun g H1 g0 g1 S1' K1 => ⟨_, _, rfl, rfl, by show 1 ≤ sizeLine; decide, fun r nr => ?_⟩⟩
    have d1 : Drw a c H H1 := ⟨K1, S1'⟩
    obtain ⟨n0, en⟩ : ∃ n : Nat, (8 : Int) + g = (n : Int) := ⟨(8 + g).toNat, by omega⟩
    have nrH : H r = none := by
      cases e : H r with
      | none => rfl
      | some o =>
        by_cases ra : r = a
        · subst ra
          obtain ⟨_, ns, i, sm, kk, x1, _, _⟩ := S1'
          rw [x1] at nr
          cases nr
        · by_cases rcc : r = c
          · subst rcc
            obtain ⟨_, ns, i, sm, kk, _, x2, _⟩ := S1'
            rw [x2] at nr
            cases nr
          · rw [K1 r o e ra rcc] at nr
            cases nr
    have R1 : Rm (upd H1 r (.lst [.int (n0 : Int)])) a c r n0 := ⟨S1'.same (Same.new nr), upd_same, free_ne S1'.some_c nr⟩
    have M1 : MenuAt (upd H1 r (.lst [.int (n0 : Int)])) p l1 l2 S1 S2 := (M.drw S d1).same (Same.new nr)
    have D1 : Dro a c r H (upd H1 r (.lst [.int (n0 : Int)])) := fun b o hb na nc nrb => by
      rw [upd_ne nrb]
      exact K1 b o hb na nc
    show tSeq _ _ _ _ (upd H1 r (.lst [.int ((8 : Int) + g)]))
    rw [en]
    generalize upd H1 r (.lst [.int (n0 : Int)]) = H2 at R1 M1 D1 ⊢
    have done : ∀ (xs : List V) (ds : List DT) (H' : Hp) (n' : Nat), RpAll K H' xs ds → 1 ≤ ds.length → ds.length ≤ 5 → (∀ d ∈ ds, ItemG S1 S2 6 false d) → (∀ q, (ds.map (wtW (cntW q))).sum ≤ 100) → Rm H' a c r n' → Dro a c r H H' → ∀ u, H' u = none → Q (.ref u) (upd H' u (.tup xs)) := fun xs ds H' n' ra h1 h5 hd hc R' D' u nu => by
      refine k (.ref u) ds _ (.tup upd_same (ra.keep (Same.new nu))) ⟨decide_eq_true (by omega), hd⟩ h1 h5 (fun q => ?_) ⟨fun b o hb na nc => ?_, R'.src.same (Same.new nu)⟩
      · cases q with
        | zero => exact Nat.zero_le _
        | succ q => exact hc q
      · exact (Same.new nu) _ _ (D' b o hb na nc (ne_of_none hb nrH))
    refine ⟨_, rfl, a, c, 5, rfl, R1.src, by decide, log2_small (by decide) (by decide), fun e H3 e0 e1 S3 K3 => ⟨_, _, rfl, rfl, by decide, fun L nL => ?_⟩⟩
    obtain ⟨m, em⟩ : ∃ m : Nat, (1 : Int) + e = (m : Int) := ⟨(1 + e).toNat, by omega⟩
    have R3 := R1.drw ⟨K3, S3⟩
    have D3 : Dro a c r H2 H3 := Dro.of_drw ⟨K3, S3⟩
    obtain ⟨La, Lc, Lr⟩ := R3.fresh nL
    have nLH : H2 L = none := by
      cases x : H2 L with
      | none => rfl
      | some o =>
        rw [D3 L o x La Lc Lr] at nL
        cases nL
    refine ⟨_, rfl, a, c, 4, rfl, (R3.same (Same.new nL)).src, by decide, log2_small (by decide) (by decide), fun e2 H4 e20 e21 S4 K4 => ?_⟩
    have R4 := (R3.same (Same.new (o := .lst []) nL)).drw ⟨K4, S4⟩
    have D4 : Dro a c r H2 H4 := D3.trans ((Dro.of_same (Same.new nL)).trans (Dro.of_drw ⟨K4, S4⟩))
    have hL4 : H4 L = some (.lst []) := K4 _ _ upd_same La Lc
    obtain ⟨N, eN⟩ : ∃ N : Nat, (1 : Int) + e2 = (N : Int) := ⟨(1 + e2).toNat, by omega⟩
    refine ⟨_, _, rfl, rfl, (N : Int), congrArg (fun z => [V.int z]) eN, by omega, by omega, for_range (lo := 0) (n := N) (fun i σ H' => ∃ (x5 x6 : Option V) (n1 : Nat) (xs : List V) (ds : List DT), σ = [some (.ref a), some (.ref p), some (.ref r), some (.int (1 + e)), some (.ref L), x5, x6] ∧ H' L = some (.lst xs) ∧ RpAll K H' xs ds ∧ ds.length = i ∧ (∀ d ∈ ds, ItemG S1 S2 6 false d) ∧
        (∀ q, (ds.map (wtW (cntW q))).sum + 2 * n1 ≤ 2 * i + 2 * n0) ∧ Rm H' a c r n1 ∧ Dro a c r H2 H') ⟨_, _, n0, [], [], rfl, hL4, .nil, rfl, (fun d hd => by cases hd), fun q => (by show 0 + 2 * n0 ≤ 2 * 0 + 2 * n0; omega), R4, D4⟩ ?_ ?_⟩
    · rintro i σ H5 hi ⟨x5, x6, n1, xs, ds, rfl, hL, ra, ld, hd, hc, R5, D5⟩
      refine ⟨_, rfl, .inl ⟨rfl, _, SqL.of hL⟩, _, rfl, _, rfl, _, rfl, _, rfl, m, by omega, a, c, r, p, l1, l2, S1, S2, n1, false, congrArg (fun z => [V.ref a, V.ref p, V.ref r, V.int z, V.bl false]) em, R5, ?_, M1.dro R1 D5, fun v d H6 n6 r6 i6 c6 R6 D6 => ⟨L, xs, v, rfl, rfl, D6 _ _ hL La Lc Lr, small1000 (by rw [ra.len]; omega), ?_⟩⟩
      · have := hc 0
        omega
      refine ⟨_, _, n6, xs ++ [v], ds ++ [d], rfl, upd_same, ((RpAll.dro R5 R6 D6 ra).snoc r6).updL (D6 _ _ hL La Lc Lr), by rw [List.length_append, ld]; rfl, fun x hx => ?_, fun q => ?_, R6.updL La Lc Lr, fun b o hb na nc nr => ?_⟩
      · rcases List.mem_append.mp hx with hx | hx
        · exact hd x hx
        · rw [List.mem_singleton.mp hx]
          exact ig_up (by omega) i6
      · rw [List.map_append, List.sum_append]
        show _ + (wtW (cntW q) d + 0) + _ ≤ _
        have := hc q
        have := c6 q
        omega
      · rw [upd_ne (ne_of_none hb nLH)]
        exact D6 b o (D5 b o hb na nc nr) na nc nr
    · rintro σ H5 ⟨x5, x6, n1, xs, ds, rfl, hL, ra, ld, hd, hc, R5, D5⟩
      refine ⟨_, rfl, a, c, 2, rfl, R5.src, by decide, log2_small (by decide) (by decide), fun t H6 t0 t1 S6 K6 => ?_⟩
      have d6 : Drw a c H5 H6 := ⟨K6, S6⟩
      have R6 := R5.drw d6
      have D6 := D5.trans (Dro.of_drw d6)
      have hL6 : H6 L = some (.lst xs) := K6 _ _ hL La Lc
      have ra6 := RpAll.drw R5.src d6 ra
      refine ⟨rfl, _, rfl, ite2 (fun _ => ?_) (fun _ => ?_)⟩
      · have fin : ∀ (u : V) (l' : List DT) (H' : Hp) (n' : Nat), Rp K H' u (.tup l') → genR S1 S2 6 true (.tup l') → (quietW 6 (.tup l')).1 = false → (∀ q, cntW q (.tup l') + 2 * n' ≤ 1 + 2 * n1) → Rm H' a c r n' → Dro a c r H2 H' → H' L = some (.lst xs) → RpAll K H' xs ds →
            ∀ t, H' t = none → ∀ u', upd (upd H' t (.tup [.str "repeat", u])) L (.lst (xs ++ [.ref t])) u' = none → Q (.ref u') (upd (upd (upd H' t (.tup [.str "repeat", u])) L (.lst (xs ++ [.ref t]))) u' (.tup (xs ++ [.ref t]))) := fun u l' H' n' ru gu qu cu Ru Du hLu rau t nt u' nu' => by
          have s4 := Same.new (o := .tup [.str "repeat", u]) nt
          have ig := ig_rep (lp := false) gu qu
          have hLt := s4 _ _ hLu
          refine done (xs ++ [.ref t]) (ds ++ [repD (.tup l')]) _ n' (((rau.keep s4).snoc (.tup upd_same (.cons (.str (by decide +kernel)) (.cons (ru.keep s4) .nil)))).updL hLt) (by rw [List.length_append]; show 1 ≤ ds.length + 1; omega) (by rw [List.length_append]; show ds.length + 1 ≤ 5; omega) (fun x hx => ?_) (fun q => ?_) ((Ru.same s4).updL La Lc Lr) ?_ u' nu'
          · rcases List.mem_append.mp hx with hx | hx
            · exact hd x hx
            · rw [List.mem_singleton.mp hx]
              exact ig
          · rw [List.map_append, List.sum_append]
            show _ + (wtW (cntW q) (repD (.tup l')) + 0) ≤ _
            rw [wt_of ig.1, blocks_rep]
            show _ + (1 + (cntW q (.tup l') + 0) + 0) ≤ _
            have := cu q
            have := hc q
            omega
          · intro b o hb na nc nr
            have h2 := D1 b o hb na nc nr
            rw [upd_ne (ne_of_none h2 nLH)]
            exact s4 _ _ (Du b o h2 na nc nr)
        refine ⟨_, rfl, _, rfl, _, rfl, _, rfl, m, by omega, a, c, r, p, l1, l2, S1, S2, n1, true, congrArg (fun z => [V.ref a, V.ref p, V.ref r, V.int z, V.bl true]) em, R6, ?_, M1.dro R1 D6, fun v lb H7 n7 r7 g7 b7 c7 R7 D7 => ?_⟩
        · have := hc 0
          omega
        have hL7 := D7 _ _ hL6 La Lc Lr
        have ra7 := RpAll.dro R6 R7 D7 ra6
        refine ⟨_, rfl, m + 1, by omega, v, .tup lb, rfl, r7, gen_good g7, fun pq H8 ⟨s8, np8, hp8⟩ => ⟨pq, _, _, _, rfl, rfl, SqT.of hp8, at_of (j := 0) rfl rfl, _, rfl, ?_⟩⟩
        have R8 := R7.same s8
        have r8 := r7.keep s8
        have D8 := D6.trans (D7.trans (Dro.of_same s8))
        have hL8 := s8 _ _ hL7
        have ra8 := ra7.keep s8
        have g6 : genR S1 S2 6 true (.tup lb) := gen_up (by omega) g7
        have eq6 : quietW 6 (.tup lb) = quietW (m + 1) (.tup lb) := quiet_up (by omega) (gen_dep g7)
        cases hq : (quietW (m + 1) (.tup lb)).1 with
        | false =>
          refine iteF ⟨_, rfl, .inl ⟨rfl, _, SqL.of hL8⟩, _, rfl, by show 2 ≤ sizeLine; decide, fun t nt => ⟨L, xs, .ref t, rfl, rfl, (Same.new nt) _ _ hL8, small1000 (by rw [ra8.len]; omega), ?_⟩⟩
          exact ⟨_, rfl, L, _, rfl, .inl ⟨SqL.of upd_same, fun u' nu' => fin v lb H8 n7 r8 g6 (by rw [eq6]; exact hq) (fun q => by have := c7 q; omega) R8 D8 hL8 ra8 t nt u' nu'⟩⟩
        | true =>
          refine iteT ⟨_, rfl, _, rfl, _, rfl, _, rfl, a, c, 2, rfl, R8.src, by decide, log2_small (by decide) (by decide), fun e' H9 e0' e1' S9 K9 => ?_⟩
          have d9 : Drw a c H8 H9 := ⟨K9, S9⟩
          have R9 := R8.drw d9
          have D9 := D8.trans (Dro.of_drw d9)
          refine ⟨_, _, rfl, rfl, a, c, p, l1, l2, S1, S2, 1 + e', rfl, S9, M1.dro R1 D9, fun v5 d5 H10 r5 sm5 np5 hd5 d10 => ⟨by show 1 ≤ sizeLine; decide, fun t nt => ?_⟩⟩
          have s11 := Same.new (o := .tup [v5]) nt
          have R11 := (R9.drw d10).same s11
          have D11 := D9.trans ((Dro.of_drw d10).trans (Dro.of_same s11))
          have r11 : Rp K (upd H10 t (.tup [v5])) v (.tup lb) := (Rp.drw S9 d10 (Rp.drw R8.src d9 r8)).keep s11
          have ht : upd H10 t (.tup [v5]) t = some (.tup [v5]) := upd_same
          have rt : RpAll K (upd H10 t (.tup [v5])) [v5] [d5] := .cons (r5.keep s11) .nil
          have hL11 : upd H10 t (.tup [v5]) L = some (.lst xs) := s11 _ _ (d10.k _ _ (d9.k _ _ hL8 La Lc) La Lc)
          have ra11 : RpAll K (upd H10 t (.tup [v5])) xs ds := (RpAll.drw S9 d10 (RpAll.drw R8.src d9 ra8)).keep s11
          generalize upd H10 t (.tup [v5]) = H11 at R11 D11 r11 ht rt hL11 ra11 ⊢
          obtain ⟨pb, xb, rfl, hpb, rab⟩ := r11.tup_inv
          have gn : genR S1 S2 6 true (.tup (lb ++ [d5])) := gen_snoc g6 (by omega) (ig_simp sm5 np5)
          have qn : (quietW 6 (.tup (lb ++ [d5]))).1 = false := quiet_snoc sm5 (hd5 (by omega))
          have cn : ∀ q, cntW q (.tup (lb ++ [d5])) + 2 * n7 ≤ 1 + 2 * n1 := fun q => by
            have := cnt_snoc (k := q) (l := lb) (t := d5)
            rw [wt_simp sm5] at this
            have := c7 q
            omega
          refine ⟨pb, t, xb, [v5], rfl, rfl, SqT.of hpb, SqT.of ht, small9 (by rw [rab.len]; show lb.length + 1 ≤ 1000; omega), fun z => ?_, fun _ z => (by cases z), fun _ _ u nu => ?_⟩
          · subst z
            have : lb = [] := List.eq_nil_of_length_eq_zero rab.len.symm
            subst this
            refine ⟨_, rfl, .inl ⟨rfl, _, SqL.of hL11⟩, _, rfl, by show 2 ≤ sizeLine; decide, fun t2 nt2 => ⟨L, xs, .ref t2, rfl, rfl, (Same.new nt2) _ _ hL11, small1000 (by rw [ra11.len]; omega), ?_⟩⟩
            exact ⟨_, rfl, L, _, rfl, .inl ⟨SqL.of upd_same, fun u' nu' => fin (.ref t) _ H11 n7 (.tup ht rt) gn qn cn R11 D11 hL11 ra11 t2 nt2 u' nu'⟩⟩
          · have su := Same.new (o := .tup (xb ++ [v5])) nu
            refine ⟨_, rfl, .inl ⟨rfl, _, SqL.of (su _ _ hL11)⟩, _, rfl, by show 2 ≤ sizeLine; decide, fun t2 nt2 => ⟨L, xs, .ref t2, rfl, rfl, (Same.new nt2) _ _ (su _ _ hL11), small1000 (by rw [ra11.len]; omega), ?_⟩⟩
            exact ⟨_, rfl, L, _, rfl, .inl ⟨SqL.of upd_same, fun u' nu' => fin (.ref u) _ _ n7 (.tup upd_same ((rab.append rt).keep su)) gn qn cn (R11.same su) (D11.trans (Dro.of_same su)) (su _ _ hL11) (ra11.keep su) t2 nt2 u' nu'⟩⟩
      · refine ⟨_, rfl, L, xs, rfl, .inl ⟨SqL.of hL6, fun u nu => done xs ds H6 n1 ra6 (by omega) (by omega) hd (fun q => ?_) R6 (D1.trans D6) u nu⟩⟩
        have := hc q
        omega
end
end Oh
namespace Oh
open PySem PySem.Spec PyProof.Rows L2 PpSet
abbrev sValueOf : Stmt := top 9999
def intOf (d : DT) : Int := match d with
  | .int i => i
  | _ => 0
def opV (h : Str) (l : List Int) : Int := if h = "not" then (if l.getD 0 0 = 0 then 1 else 0) else if h = "plus" then (l.getD 0 0 + l.getD 1 0) % 10 else if h = "minus" then (l.getD 0 0 - l.getD 1 0) % 10
  else if h = "same" then (if l.getD 0 0 = l.getD 1 0 then 1 else 0) else (if l.getD 0 0 < l.getD 1 0 then 1 else 0)
def valB (ρ : Str → Int) : Nat → DT → Int
  | 0, d => if digitB d = true then intOf d else ρ (strB (argB d 1))
  | n + 1, d => if digitB d = true then intOf d else if headB d = "name" then ρ (strB (argB d 1)) else opV (headB d) ((tailB d).map (valB ρ n))
def spVal (K : PySem.W.Frag) (n : Nat) : Sp := fun vs H Q _ => ∃ (v : V) (d : DT) (D : Addr) (kvs : List (L2.Key × V)) (ρ : Str → Int), vs = [v, .ref D] ∧ Rp K H v d ∧ exprB n d = true ∧ H D = some (.dK kvs) ∧ (∀ x ∈ namesX n d, valV kvs (.inr x) = some (.int (ρ x))) ∧ ∀ H', Same H H' → Q (.int (valB ρ n d)) H'
def spValP (K : PySem.W.Frag) : Nat → Sp
  | 0 => fun _ _ _ _ => False
  | n + 1 => spVal K n
section
variable {P : Program} {w : World} {K : PySem.W.Frag} {mg : Str → Option Value} {base : Heap}
abbrev nVa : List Str := ["expression", "held", "head", "values", "one", "other", "part"]
end
end Oh
namespace Oh
open PySem PySem.Spec PyProof.Rows L2 PpSet
theorem expr_int {n : Nat} {d : DT} (h : exprB n d = true) : isB d "int" = digitB d := by
  cases hd : digitB d with
  | true =>
    cases d with
    | int i => rfl
    | _ => cases hd
  | false =>
    have inv := expr_inv h hd
    have ne : headB d ≠ "" := by
      rcases inv with ⟨h1, _⟩ | ⟨_, _, _, _, h2, _⟩
      · rw [h1]
        decide
      · exact (parts_some h2).2.1
    obtain ⟨l, el⟩ := head_inv ne
    rw [el]
    rfl
/-- an expression that is no digit, as a tuple -/
theorem expr_tup {K : PySem.W.Frag} {H : Hp} {n : Nat} {d : DT} {v : V} (h : exprB n d = true) (hd : digitB d = false) (r : Rp K H v d) : ∃ p xs l, v = .ref p ∧ H p = some (.tup (.str (headB d) :: xs)) ∧ d = .tup (.str (headB d) :: l) ∧ RpAll K H xs l := by
  have inv := expr_inv h hd
  have ne : headB d ≠ "" := by
    rcases inv with ⟨h1, _⟩ | ⟨_, _, _, _, h2, _⟩
    · rw [h1]
      decide
    · exact (parts_some h2).2.1
  obtain ⟨l, el⟩ := head_inv ne
  obtain ⟨p, xs, rfl, hp, ra⟩ := (el ▸ r : Rp K H v (.tup (.str (headB d) :: l))).tup_inv
  cases ra with
  | cons r0 ra =>
    cases r0
    exact ⟨p, _, l, rfl, hp, el, ra⟩
theorem flat_few {n : Nat} : ∀ (l : List DT), (∀ x ∈ l, exprB n x = true) → ∀ i, (((l.map (namesX n)).take i).flatten).length ≤ l.length * 2 ^ n
  | [], _, i => by simp
  | x :: r, hx, i => by
    cases i with
    | zero => simp
    | succ i =>
      rw [List.map_cons, List.take_succ_cons, List.flatten_cons, List.length_append, List.length_cons, Nat.succ_mul]
      have a1 := names_few n x (hx x List.mem_cons_self)
      have a2 := flat_few r (fun y my => hx y (List.mem_cons_of_mem _ my)) i
      omega
def spSpoken (K : PySem.W.Frag) (n : Nat) : Sp := fun vs H Q _ => ∃ v d, vs = [v] ∧ Rp K H v d ∧ exprB n d = true ∧ ∀ p H', Same H H' → H p = none → H' p = some (.lst ((namesX n d).map V.str)) → Q (.ref p) H'
def spSpokenP (K : PySem.W.Frag) : Nat → Sp
  | 0 => fun _ _ _ _ => False
  | n + 1 => spSpoken K n
section
variable {P : Program} {w : World} {K : PySem.W.Frag} {mg : Str → Option Value} {base : Heap}
abbrev nSp : List Str := ["_law_expression_here", "_law_found", "_law_part"]
theorem scSpoken : FnScope nSp ["_law_expression_here"] (defScope lSpoken) := ⟨rfl, rfl, rfl, by decide +kernel, rfl, by decide +kernel, by decide +kernel⟩
theorem spoken_step {n : Nat} (n4 : n ≤ 4) {f : Addr} {fd : FuncData} (F : Fun K "_law_spoken" "_law_spoken" lSpoken f fd) (T : TxtI mg)
    (GP : FnOk P w K mg base CX0 (n + 1) f fd ["_law_expression_here"] (spSpokenP K n)) (bP : Binds K fd ["_law_expression_here"] []) (mP : mg "_law_spoken" = some (.ref f)) : FnOk P w K mg base CX0 (n + 2) f fd ["_law_expression_here"] (spSpoken K n) := by
  refine F.ok scSpoken (fun vs H Q E h => ?_) (fun cdv A outer s H vs Q E hr h => ?_)
  · obtain ⟨v, d, rfl, _⟩ := h
    rfl
  · obtain ⟨v, d, rfl, r, he, k⟩ := h
    obtain ⟨t1, y1, z1⟩ := isi_of r (.inl rfl)
    have ge : ∀ {a b : Str}, a ≠ b → ¬ decide (V.str a = V.str b) = true := fun h z => h (V.str.inj (of_decide_eq_true z))
    refine ⟨_, (pss_cons (ps_if (pt_val (pe_isi (pv 0) mono_var T.isi T.int bb_int))
        (pss_one (ps_ret (pe_lst pa_nil))) pss_nil)
      (pss_cons (ps_if (pt_cmpR op_eq (pe_ix ix_tup (pv 0) pe_int (fun _ _ => rfl)) pe_str (nomark _))
        (pss_one (ps_ret (pe_lst (pa_cons (pe_ix ix_tup (pv 0) pe_int (fun _ _ => rfl)) pa_nil)))) pss_nil)
      (pss_cons (ps_set (i := 1) scSpoken.nd rfl (Or.inl rfl) (pe_lst pa_nil))
      (pss_cons (ps_for PassesOwn.never rfl (pi_tup (pe_slice sl_tup (pv 0) (po_some pe_int) po_none)) (pg_name (i := 2) scSpoken.nd rfl (Or.inl rfl))
        (pss_one (ps_set (i := 1) scSpoken.nd rfl (Or.inl rfl) (pe_op op_cat (pv 1) (pe_call GP hr (by rfl) mP F.kp bP .nil pass0 (pa_cons (pv 2) pa_nil))))))
      (pss_one (ps_ret (pv 1))))))), ?_⟩
    refine ⟨_, rfl, t1, _, y1, z1, _, rfl, ?_⟩
    rw [expr_int he]
    cases hd : digitB d with
    | true =>
      have e : namesX n d = [] := namesX_digit hd
      rw [e] at k
      exact iteT ⟨by show 0 ≤ sizeLine; decide, fun q nq => k q _ (Same.new nq) nq upd_same⟩
    | false =>
      refine iteF ?_
      have nd : ¬ digitB d = true := by rw [hd]; decide
      have inv := expr_inv he hd
      obtain ⟨p, xs, l, rfl, hp, el, ra⟩ := expr_tup he hd r
      have ll := len_of el
      refine ⟨_, rfl, p, _, _, _, rfl, rfl, SqT.of hp, at_of (j := 0) rfl rfl, rfl, _, rfl, ?_⟩
      rcases inv with ⟨h1, h2, h3⟩ | ⟨n', m, rfl, h1, h2, h3, h4⟩
      · refine ite2 (fun _ => ?_) (fun z => absurd (decide_eq_true (by rw [h1])) z)
        have e : namesX n d = [strB (argB d 1)] := by
          cases n with
          | zero => unfold namesX; rw [if_neg nd]
          | succ n => unfold namesX; rw [if_neg nd, if_pos h1]
        rw [e] at k
        have ra0 : RpAll K H (.str (headB d) :: xs) (.str (headB d) :: l) := .cons (.str (by rw [h1]; decide +kernel)) ra
        obtain ⟨v1, x1, r1⟩ := arg_at (i := 1) ra0 (by rw [← ll, h2]; decide)
        rw [← el] at r1
        obtain rfl := name_inv r1 h3
        exact ⟨_, rfl, p, _, _, _, rfl, rfl, SqT.of hp, at_of (j := 1) rfl x1, (by show 1 ≤ sizeLine; decide), fun q nq => k q _ (Same.new nq) nq upd_same⟩
      · refine ite2 (fun z => absurd z (ge h1)) fun _ => ?_
        have e : namesX (n' + 1) d = ((tailB d).map (namesX n')).flatten := by unfold namesX; rw [if_neg nd, if_neg h1]
        rw [e] at k
        have et : tailB d = l := by rw [el]; rfl
        rw [et] at k h4
        obtain ⟨_, _, m2⟩ := parts_some h2
        have ln : l.length ≤ 2 := by
          rw [ll, List.length_cons] at h3
          omega
        have few : ∀ i, (((l.map (namesX n')).take i).flatten).length ≤ 1000 := fun i => by
          have a := flat_few l h4 i
          have b : (2 : Nat) ^ n' ≤ 2 ^ 4 := Nat.pow_le_pow_right (by decide) (by omega)
          exact Nat.le_trans a (Nat.le_trans (Nat.mul_le_mul ln b) (by decide))
        refine ⟨by show 0 ≤ sizeLine; decide, fun L0 nL0 => ?_⟩
        have s0 := Same.new (o := .lst []) nL0
        have hL0 : upd H L0 (.lst []) L0 = some (.lst []) := upd_same
        generalize upd H L0 (.lst []) = H1 at s0 hL0 ⊢
        refine ⟨_, rfl, 1, rfl, p, _, rfl, SqT.of (s0 _ _ hp), cut1_no _ _, fun q nq => ?_⟩
        rw [cut1]
        have sq := Same.new (o := .tup xs) nq
        have hq : upd H1 q (.tup xs) q = some (.tup xs) := upd_same
        generalize upd H1 q (.tup xs) = H2 at sq hq ⊢
        have s02 := s0.trans sq
        have ra2 := ra.keep s02
        refine ⟨q, rfl, ⟨_, SqT.of hq⟩, for_it (walk_tup (K := K) (a := q) (xs := xs)) (fun i σ H' => ∃ (L : Addr) (x2 : Option V), σ = [some (.ref p), some (.ref L), x2] ∧ Same H2 H' ∧ H L = none ∧ H' L = some (.lst ((((l.map (namesX n')).take i).flatten).map V.str)))
          ⟨L0, _, rfl, Same.refl _, nL0, sq _ _ hL0⟩ (fun i σ H' _ ⟨_, _, _, s, _⟩ => SqT.of (s _ _ hq)) ?_ ?_⟩
        · rintro i x σ Ha Hb hi ⟨L, x2, rfl, sa, nL, hL⟩ ⟨e, ex⟩
          subst e
          have li : i < l.length := by rw [← ra.len]; exact hi
          obtain ⟨vi, ev, rv⟩ := ra2.get (i := i) (d := l[i]) (List.getElem?_eq_getElem li)
          obtain rfl := Option.some.inj (ev.symm.trans ex)
          have lc : (l.map (namesX n'))[i]? = some (namesX n' l[i]) := by rw [List.getElem?_map, List.getElem?_eq_getElem li]; rfl
          have tk : ((l.map (namesX n')).take (i + 1)).flatten = ((l.map (namesX n')).take i).flatten ++ namesX n' l[i] := by rw [List.take_add_one, lc, List.flatten_append]; simp
          refine ⟨_, rfl, _, rfl, vi, l[i], rfl, rv.keep sa, h4 _ (List.getElem_mem li), fun q3 Hc sc nq3 hq3 => ?_⟩
          have f1 := few (i + 1)
          rw [tk, List.length_append] at f1
          refine ⟨L, q3, _, _, rfl, rfl, sc _ _ hL, hq3, ?_, fun z nz => ⟨z, _, rfl, sa.trans (sc.trans (Same.new nz)), ((s02.trans (sa.trans sc)).free nz), ?_⟩⟩
          · rw [List.length_map, List.length_map]
            exact Nat.le_trans f1 (by decide)
          · rw [upd_same, tk, List.map_append]
        · rintro σ H' ⟨L, x2, rfl, sa, nL, hL⟩
          rw [List.take_of_length_le (by rw [List.length_map, ra.len]; exact Nat.le_refl _)] at hL
          exact ⟨_, rfl, k L H' (s02.trans sa) nL hL⟩
theorem ok_spoken {f : Addr} {fd : FuncData} (F : Fun K "_law_spoken" "_law_spoken" lSpoken f fd) (T : TxtI mg) (bP : Binds K fd ["_law_expression_here"] []) (mP : mg "_law_spoken" = some (.ref f)) : ∀ n, n ≤ 4 → FnOk P w K mg base CX0 (n + 2) f fd ["_law_expression_here"] (spSpoken K n)
  | 0, h => spoken_step h F T never_ok bP mP
  | n + 1, h => spoken_step h F T (ok_spoken F T bP mP n (by omega)) bP mP
end
end Oh
namespace Oh
open PySem PySem.Spec PyProof.Rows L2 PpSet
theorem good_parts {m : Nat} {b : DT} (h : goodR (m + 1) b = true) : blockB b = true ∧ ∀ d ∈ listB b, stmtB d = true ∧ ∀ c ∈ blocksB d, goodR m c = true := by
  obtain ⟨h1, h2⟩ := Bool.and_eq_true_iff.mp (show (blockB b && (listB b).all fun d => stmtB d && (blocksB d).all (goodR m)) = true from h)
  refine ⟨h1, fun d hd => ?_⟩
  obtain ⟨h3, h4⟩ := Bool.and_eq_true_iff.mp (List.all_eq_true.mp h2 d hd)
  exact ⟨h3, fun c hc => List.all_eq_true.mp h4 c hc⟩
def RowA (K : PySem.W.Frag) (H : Hp) (x : V) (r : WRow) : Prop := ∃ (R T : Addr) (vS : V), x = .ref R ∧ H R = some (.tup [.ref T, vS]) ∧ H T = some (.tup (pathV r.1)) ∧ Rp K H vS r.2.1
abbrev RowsA (K : PySem.W.Frag) (H : Hp) (xs : List V) (rs : List WRow) : Prop := Paired (RowA K H) xs rs
theorem RowA.keep {K : PySem.W.Frag} {H H' : Hp} {x : V} {r : WRow} (s : Same H H') (h : RowA K H x r) : RowA K H' x r := by
  obtain ⟨R, T, vS, e, h1, h2, h3⟩ := h
  exact ⟨R, T, vS, e, s _ _ h1, s _ _ h2, h3.keep s⟩
theorem RowA.updL {K : PySem.W.Frag} {H : Hp} {L : Addr} {xs ys : List V} {x : V} {r : WRow} (hL : H L = some (.lst xs)) (h : RowA K H x r) : RowA K (upd H L (.lst ys)) x r := by
  obtain ⟨R, T, vS, e, h1, h2, h3⟩ := h
  have ne : ∀ {p : Addr} {zs : List V}, H p = some (.tup zs) → upd H L (.lst ys) p = some (.tup zs) := fun {p zs} e => by
    rw [upd_ne (fun z => by subst z; rw [hL] at e; cases Option.some.inj e)]
    exact e
  exact ⟨R, T, vS, e, ne h1, ne h2, h3.updL hL⟩
theorem RowsA.keep {K : PySem.W.Frag} {H H' : Hp} (s : Same H H') : ∀ {xs : List V} {rs : List WRow}, RowsA K H xs rs → RowsA K H' xs rs
  | _, _, .nil => .nil
  | _, _, .cons h t => .cons (h.keep s) (RowsA.keep s t)
theorem RowsA.updL {K : PySem.W.Frag} {H : Hp} {L : Addr} {zs ys : List V} (hL : H L = some (.lst zs)) : ∀ {xs : List V} {rs : List WRow}, RowsA K H xs rs → RowsA K (upd H L (.lst ys)) xs rs
  | _, _, .nil => .nil
  | _, _, .cons h t => .cons (h.updL hL) (RowsA.updL hL t)
theorem RowsA.append {K : PySem.W.Frag} {H : Hp} : ∀ {xs ys : List V} {rs qs : List WRow}, RowsA K H xs rs → RowsA K H ys qs → RowsA K H (xs ++ ys) (rs ++ qs)
  | _, _, _, _, .nil, h => h
  | _, _, _, _, .cons h t, z => .cons h (RowsA.append t z)
theorem RowsA.at_ {K : PySem.W.Frag} {H : Hp} : ∀ {xs : List V} {rs : List WRow} {i : Nat} {r : WRow}, RowsA K H xs rs → rs[i]? = some r → ∃ x, xs[i]? = some x ∧ RowA K H x r
  | _, _, _, _, .nil, h => by cases h
  | _, _, 0, _, .cons (a := x) h _, e => ⟨x, rfl, by cases e; exact h⟩
  | _, _, i + 1, _, .cons _ t, e => RowsA.at_ (i := i) t e
theorem items_append {rec : DT → List Nat → Bool → List WRow} {w : List Nat} {lp : Bool} : ∀ (a b : List DT) (i : Nat), itemsW rec w lp (a ++ b) i = itemsW rec w lp a i ++ itemsW rec w lp b (i + a.length)
  | [], b, i => rfl
  | d :: a, b, i => by
    show (w ++ [i], d, lp) :: (inW rec (w ++ [i]) lp d ++ itemsW rec w lp (a ++ b) (i + 1)) = (w ++ [i], d, lp) :: (inW rec (w ++ [i]) lp d ++ itemsW rec w lp a (i + 1)) ++ _
    rw [items_append a b (i + 1), List.length_cons, show i + 1 + a.length = i + (a.length + 1) by omega, List.cons_append, List.append_assoc]
theorem blks_append {rec : DT → List Nat → Bool → List WRow} {w : List Nat} {lp : Bool} : ∀ (a b : List DT) (i : Nat), blocksW rec w lp (a ++ b) i = blocksW rec w lp a i ++ blocksW rec w lp b (i + a.length)
  | [], b, i => rfl
  | d :: a, b, i => by
    show rec d (w ++ [i]) lp ++ blocksW rec w lp (a ++ b) (i + 1) = rec d (w ++ [i]) lp ++ blocksW rec w lp a (i + 1) ++ _
    rw [blks_append a b (i + 1), List.length_cons, show i + 1 + a.length = i + (a.length + 1) by omega, List.append_assoc]
theorem path_go {K : PySem.W.Frag} {H : Hp} {Q : VK} {p q : Addr} {w u : List Nat} (hp : H p = some (.tup (pathV w))) (hq : H q = some (.tup (pathV u))) (hu : u ≠ []) (hl : w.length + u.length ≤ 1000) (k : ∀ r H', Same H H' → H' r = some (.tup (pathV (w ++ u))) → Q (.ref r) H') : rCatA K (.ref p) (.ref q) H Q := by
  refine ⟨p, q, pathV w, pathV u, rfl, rfl, SqT.of hp, SqT.of hq, small9 (by rw [List.length_map, List.length_map]; omega), fun z => ?_, fun _ z => absurd (List.map_eq_nil_iff.mp z) hu, fun _ _ r nr => ?_⟩
  · have : w = [] := List.map_eq_nil_iff.mp z
    subst this
    exact k _ H (Same.refl H) hq
  · refine k r _ (Same.new nr) ?_
    rw [upd_same]
    show some (HO.tup (pathV w ++ pathV u)) = some (HO.tup ((w ++ u).map fun (n : Nat) => V.int (n : Int)))
    rw [List.map_append]
def spList (K : PySem.W.Frag) (m : Nat) : Sp := fun vs H Q _ => ∃ v b p w lp, vs = [v, .ref p] ∧ Rp K H v b ∧ goodR m b = true ∧ H p = some (.tup (pathV w)) ∧ w.length + 2 * m ≤ 100 ∧ cntW m b ≤ 500 ∧
  ∀ L xs H', Same H H' → H L = none → H' L = some (.lst xs) → RowsA K H' xs (rowsW m b w lp) → Q (.ref L) H'
def spListP (K : PySem.W.Frag) : Nat → Sp
  | 0 => fun _ _ _ _ => False
  | m + 1 => spList K m
abbrev pr2 (r : LRow) : List Nat × DT := (r.1, r.2.1)
abbrev pw2 (r : WRow) : List Nat × DT := (r.1, r.2.1)
theorem lay_blks {recL : DT → List Nat → OPath → OPath → List LRow} {recW : DT → List Nat → Bool → List WRow} : ∀ (bs : List DT) (j : Nat) (here : List Nat) (fol out : OPath) (rp lp : Bool), (∀ b ∈ bs, ∀ p a c l, (recL b p a c).map pr2 = (recW b p l).map pw2) →
    (layBlocks recL here fol out rp bs j).map pr2 = (blocksW recW here lp bs j).map pw2
  | [], _, _, _, _, _, _, _ => rfl
  | b :: bs, j, here, fol, out, rp, lp, h => by
    unfold layBlocks blocksW
    rw [List.map_append, List.map_append, lay_blks bs (j + 1) here fol out rp lp fun b' hb => h b' (List.mem_cons_of_mem _ hb)]
    cases rp
    · rw [if_neg (by decide), h b List.mem_cons_self _ _ _ lp]
    · rw [if_pos rfl, h b List.mem_cons_self _ _ _ lp]
theorem lay_items {recL : DT → List Nat → OPath → OPath → List LRow} {recW : DT → List Nat → Bool → List WRow} {m : Nat} {path : List Nat} {behind out : OPath} {lp : Bool} : ∀ (ds : List DT) (i : Nat), (∀ d ∈ ds, stmtB d = true ∧ ∀ b ∈ blocksB d, ∀ p a c l, (recL b p a c).map pr2 = (recW b p l).map pw2) →
    (layItems recL m path behind out ds i).map pr2 = (itemsW recW path lp ds i).map pw2
  | [], _, _ => rfl
  | d :: ds, i, h => by
    obtain ⟨h1, h2⟩ := h d List.mem_cons_self
    unfold layItems itemsW inW
    rw [if_pos h1, List.map_cons, List.map_cons, List.map_append, List.map_append, lay_items ds (i + 1) fun d' hd => h d' (List.mem_cons_of_mem _ hd), lay_blks (blocksB d) 0 _ _ _ _ (lp || decide (headB d = "repeat")) h2]
theorem lay_rows : ∀ (m : Nat) (b : DT) (p : List Nat) (a c : OPath) (lp : Bool), goodR m b = true → (layR m b p a c).map pr2 = (rowsW m b p lp).map pw2
  | 0, _, _, _, _, _, _ => rfl
  | m + 1, b, p, a, c, lp, h => by
    show (layItems (layR m) _ p a c (listB b) 0).map pr2 = (itemsW (rowsW m) p lp (listB b) 0).map pw2
    refine lay_items _ 0 fun d hd => ?_
    obtain ⟨_, hi⟩ := good_parts h
    obtain ⟨hs, hx⟩ := hi d hd
    exact ⟨hs, fun b' hb p' a' c' l' => lay_rows m b' p' a' c' l' (hx b' hb)⟩
end Oh
namespace Oh
open PySem PySem.Spec PyProof.Rows L2 PpSet
section
variable {P : Program} {w : World} {K : PySem.W.Frag} {mg : Str → Option Value} {base : Heap}
abbrev nOw : List Str := ["_law_statement_here", "_law_row"]
theorem scOwn : FnScope nOw ["_law_statement_here"] (defScope lOwnNames) := ⟨rfl, rfl, rfl, by decide +kernel, rfl, by decide +kernel, by decide +kernel⟩
theorem ok_own {f fS : Addr} {fd fdS : FuncData} (F : Fun K "_law_own_names" "_law_own_names" lOwnNames f fd)
    (GS : FnOk P w K mg base CX0 6 fS fdS ["_law_expression_here"] (spSpoken K 4)) (kS : PySem.W.keepIn K (.ref fS) = true) (bS : Binds K fdS ["_law_expression_here"] []) (mS : mg "_law_spoken" = some (.ref fS)) : FnOk P w K mg base CX0 7 f fd ["_law_statement_here"] (spStrs K namesB) := by
  refine F.ok scOwn (fun vs H Q E h => ?_) (fun cdv A outer s H vs Q E hr h => ?_)
  · obtain ⟨v, d, rfl, _⟩ := h
    rfl
  · obtain ⟨v, d, rfl, r, hs, k⟩ := h
    obtain ⟨g, l, hk, hg, el⟩ := stmt_inv hs
    obtain ⟨p, xs, rfl, hp, ra⟩ := (el ▸ r : Rp K H v (.tup (.str (headB d) :: l))).tup_inv
    have hl := ra.len
    have ll := len_of el
    obtain ⟨v0, x0, r0⟩ := ra.get (i := 0) rfl
    cases r0
    have ge : ∀ {a b : Str}, a ≠ b → ¬ decide (V.str a = V.str b) = true := fun h z => h (V.str.inj (of_decide_eq_true z))
    refine ⟨_, (pss_cons (ps_if (pt_cmpR op_eq (pe_ix ix_tup (pv 0) pe_int (fun _ _ => rfl)) pe_str (nomark _))
        (pss_one (ps_ret (pe_op op_cat (pe_lst (pa_cons (pe_ix ix_tup (pv 0) pe_int (fun _ _ => rfl)) pa_nil)) (pe_call GS hr (by rfl) mS kS bS .nil pass0 (pa_cons (pe_ix ix_tup (pv 0) pe_int (fun _ _ => rfl)) pa_nil))))) pss_nil)
      (pss_cons (ps_if (pt_cmpR op_eq (pe_ix ix_tup (pv 0) pe_int (fun _ _ => rfl)) pe_str (nomark _))
        (pss_one (ps_ret (pe_call GS hr (by rfl) mS kS bS .nil pass0 (pa_cons (pe_ix ix_tup (pv 0) pe_int (fun _ _ => rfl)) pa_nil)))) pss_nil)
      (pss_cons (ps_if (pt_cmpR op_eq (pe_ix ix_tup (pv 0) pe_int (fun _ _ => rfl)) pe_str (nomark _))
        (pss_one (ps_ret (pe_lst (pa_cons (pe_ix ix_tup (pv 0) pe_int (fun _ _ => rfl)) pa_nil)))) pss_nil)
      (pss_cons (ps_if (pt_cmpR op_eq (pe_ix ix_tup (pv 0) pe_int (fun _ _ => rfl)) pe_str (nomark _))
        (pss_one (ps_ret (pe_lc (own := [("_law_row", 1)]) (g := gName 1) (tt := tYes) (te := tOp (rIxT K) (tVar 1) (tC (.int 1))) rfl scOwn.nd (pi_tup (pe_ix ix_tup (pv 0) pe_int (fun _ _ => rfl))) (blkOk_by (N := nOw) (sc := defScope lOwnNames) (by decide +kernel)) (fun _ _ _ _ _ => pg_name (i := 1) scOwn.nd rfl (Or.inl rfl)) (fun _ _ _ _ _ => pts_nil) (fun _ _ _ _ _ => by exact (pe_ix ix_tup (pv 1) pe_int (fun _ _ => rfl)))))) pss_nil)
      (pss_cons (ps_if (pt_cmpR op_eq (pe_ix ix_tup (pv 0) pe_int (fun _ _ => rfl)) pe_str (nomark _))
        (pss_one (ps_ret (pe_call GS hr (by rfl) mS kS bS .nil pass0 (pa_cons (pe_ix ix_tup (pv 0) pe_int (fun _ _ => rfl)) pa_nil)))) pss_nil)
      (pss_one (ps_ret (pe_lst pa_nil)))))))), ?_⟩
    refine ⟨_, rfl, p, _, _, _, rfl, rfl, SqT.of hp, at_of (j := 0) rfl x0, rfl, _, rfl, ?_⟩
    by_cases c1 : headB d = "set"
    · refine ite2 (fun _ => ?_) (fun z => absurd (decide_eq_true (by rw [c1])) z)
      have hb : namesB d = strB (argB d 1) :: namesX 4 (argB d 2) := by unfold namesB; rw [if_pos c1]
      rw [hb] at k
      obtain ⟨h1, h2, h3⟩ := tell_len hs (.inl c1)
      obtain ⟨v1, x1, r1⟩ := arg_at (i := 1) ra (by rw [← ll, h1]; decide)
      obtain ⟨v2, x2, r2⟩ := arg_at (i := 2) ra (by rw [← ll, h1]; decide)
      rw [← el] at r1 r2
      obtain rfl := name_inv r1 h2
      refine ⟨_, rfl, p, _, _, _, rfl, rfl, SqT.of hp, at_of (j := 1) rfl x1, by show 1 ≤ sizeLine; decide, fun t nt => ?_⟩
      have st := Same.new (o := .lst [.str (strB (argB d 1))]) nt
      have ht : upd H t (.lst [.str (strB (argB d 1))]) t = some (.lst [.str (strB (argB d 1))]) := upd_same
      generalize upd H t (.lst [.str (strB (argB d 1))]) = H1 at st ht ⊢
      refine ⟨_, rfl, p, _, _, _, rfl, rfl, SqT.of (st _ _ hp), at_of (j := 2) rfl x2, v2, argB d 2, rfl, r2.keep st, h3, fun q H2 s2 nq hq => ?_⟩
      have few := names_few 4 (argB d 2) h3
      refine ⟨t, q, _, _, rfl, rfl, s2 _ _ ht, hq, ?_, fun z nz => k z _ ((st.trans s2).trans (Same.new nz)) ((st.trans s2).free nz) ?_⟩
      · rw [List.length_map]
        exact Nat.le_trans (show 1 + _ ≤ 17 by omega) (by decide)
      · rw [upd_same]
        rfl
    refine ite2 (fun z => absurd z (ge c1)) fun _ => ?_
    refine ⟨_, rfl, p, _, _, _, rfl, rfl, SqT.of hp, at_of (j := 0) rfl x0, rfl, _, rfl, ?_⟩
    by_cases c2 : headB d = "tell"
    · refine ite2 (fun _ => ?_) (fun z => absurd (decide_eq_true (by rw [c2])) z)
      have hb : namesB d = namesX 4 (argB d 2) := by unfold namesB; rw [if_neg c1, if_pos c2]
      rw [hb] at k
      obtain ⟨h1, h2, h3⟩ := tell_len hs (.inr c2)
      obtain ⟨v2, x2, r2⟩ := arg_at (i := 2) ra (by rw [← ll, h1]; decide)
      rw [← el] at r2
      exact ⟨_, rfl, p, _, _, _, rfl, rfl, SqT.of hp, at_of (j := 2) rfl x2, v2, argB d 2, rfl, r2, h3, fun q H1 s1 nq hq => k q H1 s1 nq hq⟩
    refine ite2 (fun z => absurd z (ge c2)) fun _ => ?_
    refine ⟨_, rfl, p, _, _, _, rfl, rfl, SqT.of hp, at_of (j := 0) rfl x0, rfl, _, rfl, ?_⟩
    by_cases c5 : headB d = "hear"
    · refine ite2 (fun _ => ?_) (fun z => absurd (decide_eq_true (by rw [c5])) z)
      have c3 : headB d ≠ "if" := by rw [c5]; decide
      have hb : namesB d = [strB (argB d 2)] := by unfold namesB; rw [if_neg c1, if_neg c2, if_neg c3, if_pos c5]
      rw [hb] at k
      obtain ⟨h1, h2, h3⟩ := hear_len hs c5
      obtain ⟨v2, x2, r2⟩ := arg_at (i := 2) ra (by rw [← ll, h1]; decide)
      rw [← el] at r2
      obtain rfl := name_inv r2 h3
      exact ⟨_, rfl, p, _, _, _, rfl, rfl, SqT.of hp, at_of (j := 2) rfl x2, (by show 1 ≤ sizeLine; decide), fun q nq => k q _ (Same.new nq) nq upd_same⟩
    refine ite2 (fun z => absurd z (ge c5)) fun _ => ?_
    refine ⟨_, rfl, p, _, _, _, rfl, rfl, SqT.of hp, at_of (j := 0) rfl x0, rfl, _, rfl, ?_⟩
    by_cases c4 : headB d = "wait"
    · refine ite2 (fun _ => ?_) (fun z => absurd (decide_eq_true (by rw [c4])) z)
      have c3 : headB d ≠ "if" := by rw [c4]; decide
      have hb : namesB d = (listB (argB d 1)).map fun r => strB (argB r 1) := by unfold namesB; rw [if_neg c1, if_neg c2, if_neg c3, if_neg c5, if_pos c4]
      obtain ⟨z1, z2, z3, _⟩ := wait_len hs c4
      rw [hb] at k
      obtain ⟨v1, x1, r1⟩ := arg_at (i := 1) ra (by rw [← ll, z1]; decide)
      rw [← el] at r1
      obtain ⟨m, em, lm⟩ := choice_inv z2
      rw [em] at r1 k z3
      obtain ⟨q1, ys, rfl, hq1, rm⟩ := r1.tup_inv
      refine ⟨_, rfl, p, _, _, _, rfl, rfl, SqT.of hp, at_of (j := 1) rfl x1, q1, rfl, ⟨_, SqT.of hq1⟩, fun D nD => lc_it (walk_tup (xs := ys)) (fun i H' => Same H H' ∧ H' D = some (.lst (((m.map fun r => strB (argB r 1)).take i).map V.str))) ⟨Same.new nD, upd_same⟩ (fun i H' _ z => SqT.of (z.1 _ _ hq1)) ?_ ?_⟩
      · rintro i x Ha Hb hi ⟨sa, da⟩ ⟨e, ex⟩
        subst e
        have li : i < m.length := by rw [← rm.len]; exact hi
        obtain ⟨vi, ev, rv⟩ := rm.get (i := i) (d := m[i]) (List.getElem?_eq_getElem li)
        obtain rfl := Option.some.inj (ev.symm.trans ex)
        have hrow := z3 _ (List.getElem_mem li)
        obtain ⟨lr, er, l3⟩ := row_len hrow
        have rn := (row_names hrow).2
        have rv' := rv
        rw [er] at rv'
        obtain ⟨pr, xr, rfl, hpr, rr⟩ := rv'.tup_inv
        obtain ⟨vz, evz, rz⟩ := arg_at (i := 1) rr (by omega)
        rw [← er] at rz
        obtain rfl := name_inv rz rn
        have lc : (m.map fun r => strB (argB r 1))[i]? = some (strB (argB m[i] 1)) := by rw [List.getElem?_map, List.getElem?_eq_getElem li]; rfl
        refine ⟨rfl, _, rfl, pr, _, _, _, rfl, rfl, SqT.of (sa _ _ hpr), at_of (j := 1) rfl evz, _, da, ?_, fun b o e => ?_, ?_⟩
        · rw [List.length_map, List.length_take, List.length_map]
          exact Nat.lt_of_le_of_lt (Nat.min_le_right _ _) (Nat.lt_of_le_of_lt lm (by decide))
        · rw [upd_ne (ne_of_none e nD)]
          exact sa _ _ e
        · rw [upd_same, List.take_add_one, lc]
          simp
      · rintro H1 ⟨s1, d1⟩
        rw [List.take_of_length_le (by rw [List.length_map, rm.len]; exact Nat.le_refl _)] at d1
        exact k D H1 s1 nD d1
    refine ite2 (fun z => absurd z (ge c4)) fun _ => ?_
    refine ⟨_, rfl, p, _, _, _, rfl, rfl, SqT.of hp, at_of (j := 0) rfl x0, rfl, _, rfl, ?_⟩
    by_cases c3 : headB d = "if"
    · refine ite2 (fun _ => ?_) (fun z => absurd (decide_eq_true (by rw [c3])) z)
      have hb : namesB d = namesX 4 (argB d 1) := by unfold namesB; rw [if_neg c1, if_neg c2, if_pos c3]
      rw [hb] at k
      obtain ⟨h1, _, _, h3⟩ := if_len hs c3
      obtain ⟨v1, x1, r1⟩ := arg_at (i := 1) ra (by rw [← ll, h1]; decide)
      rw [← el] at r1
      exact ⟨_, rfl, p, _, _, _, rfl, rfl, SqT.of hp, at_of (j := 1) rfl x1, v1, argB d 1, rfl, r1, h3, fun q H1 s1 nq hq => k q H1 s1 nq hq⟩
    refine ite2 (fun z => absurd z (ge c3)) fun _ => ?_
    have hb : namesB d = [] := by unfold namesB; rw [if_neg c1, if_neg c2, if_neg c3, if_neg c5, if_neg c4]
    rw [hb] at k
    exact ⟨by show 0 ≤ sizeLine; decide, fun q nq => k q _ (Same.new nq) nq upd_same⟩
end
end Oh
namespace Oh
open PySem PySem.Spec PyProof.Rows L2 PpSet
/-! ### what is still to be looked at: rows, and how deep their blocks are -/
abbrev Pend := Nat × WRow
def pendR (x : Pend) : List WRow := x.2 :: inW (rowsW x.1) x.2.1 x.2.2.2 x.2.2.1
abbrev pendsR (l : List Pend) : List WRow := (l.map pendR).flatten
def itemsP (m : Nat) (w : List Nat) (lp : Bool) : List DT → Nat → List Pend
  | [], _ => []
  | d :: ds, i => (m, w ++ [i], d, lp) :: itemsP m w lp ds (i + 1)
theorem itemsP_rows {m : Nat} {w : List Nat} {lp : Bool} : ∀ (ds : List DT) (i : Nat), itemsW (rowsW m) w lp ds i = pendsR (itemsP m w lp ds i)
  | [], _ => rfl
  | d :: ds, i => by
    show (w ++ [i], d, lp) :: (inW (rowsW m) (w ++ [i]) lp d ++ itemsW (rowsW m) w lp ds (i + 1)) = pendR (m, w ++ [i], d, lp) ++ pendsR (itemsP m w lp ds (i + 1))
    rw [itemsP_rows ds (i + 1)]
    rfl
def blksP (m : Nat) (here : List Nat) (lp : Bool) : List DT → Nat → List Pend
  | [], _ => []
  | c :: cs, j => itemsP m (here ++ [j]) lp (listB c) 0 ++ blksP m here lp cs (j + 1)
theorem blksP_rows {m : Nat} {here : List Nat} {lp : Bool} : ∀ (cs : List DT) (j : Nat), blocksW (rowsW (m + 1)) here lp cs j = pendsR (blksP m here lp cs j)
  | [], _ => rfl
  | c :: cs, j => by
    show itemsW (rowsW m) (here ++ [j]) lp (listB c) 0 ++ blocksW (rowsW (m + 1)) here lp cs (j + 1) = pendsR (itemsP m (here ++ [j]) lp (listB c) 0 ++ blksP m here lp cs (j + 1))
    rw [itemsP_rows, blksP_rows cs (j + 1)]
    unfold pendsR
    rw [List.map_append, List.flatten_append]
abbrev lpOf (x : Pend) : Bool := x.2.2.2 || decide (headB x.2.2.1 = "repeat")
abbrev kidsP (x : Pend) : List Pend := blksP (x.1 - 1) x.2.1 (lpOf x) (blocksB x.2.2.1) 0
structure OkP (x : Pend) : Prop where
  s : stmtB x.2.2.1 = true
  g : ∀ c ∈ blocksB x.2.2.1, goodR x.1 c = true
  l : x.2.1.length + 2 * x.1 ≤ 100
theorem kids_rows {x : Pend} (o : OkP x) : pendR x = x.2 :: pendsR (kidsP x) := by
  obtain ⟨m, w, d, lp⟩ := x
  show (w, d, lp) :: inW (rowsW m) w lp d = _
  unfold inW
  rw [if_pos o.s]
  cases m with
  | succ m => rw [blksP_rows]; rfl
  | zero =>
    have e : blocksB d = [] := by
      cases e : blocksB d with
      | nil => rfl
      | cons c r =>
        have := o.g c (by show c ∈ blocksB d; rw [e]; exact List.mem_cons_self)
        cases this
    show _ = (w, d, lp) :: pendsR (blksP (0 - 1) w _ (blocksB d) 0)
    rw [e]
    rfl
theorem okItems {m : Nat} {w : List Nat} {lp : Bool} : ∀ (ds : List DT) (i : Nat), (∀ d ∈ ds, stmtB d = true ∧ ∀ c ∈ blocksB d, goodR m c = true) → w.length + 1 + 2 * m ≤ 100 → ∀ x ∈ itemsP m w lp ds i, OkP x
  | [], _, _, _, x, hx => (List.not_mem_nil hx).elim
  | d :: ds, i, h, hl, x, hx => by
    rcases List.mem_cons.mp hx with rfl | hx
    · obtain ⟨h1, h2⟩ := h d List.mem_cons_self
      exact ⟨h1, h2, by show (w ++ [i]).length + 2 * m ≤ 100; rw [List.length_append, List.length_singleton]; exact hl⟩
    · exact okItems ds (i + 1) (fun d hd => h d (List.mem_cons_of_mem _ hd)) hl x hx
theorem okBlks {m : Nat} {here : List Nat} {lp : Bool} : ∀ (cs : List DT) (j : Nat), (∀ c ∈ cs, goodR (m + 1) c = true) → here.length + 2 + 2 * m ≤ 100 → ∀ x ∈ blksP m here lp cs j, OkP x
  | [], _, _, _, x, hx => (List.not_mem_nil hx).elim
  | c :: cs, j, h, hl, x, hx => by
    rcases List.mem_append.mp hx with hx | hx
    · exact okItems _ 0 (good_parts (h c List.mem_cons_self)).2 (by rw [List.length_append, List.length_singleton]; omega) x hx
    · exact okBlks cs (j + 1) (fun d hd => h d (List.mem_cons_of_mem _ hd)) hl x hx
theorem okKids {x : Pend} (o : OkP x) : ∀ y ∈ kidsP x, OkP y := by
  obtain ⟨m, w, d, lp⟩ := x
  cases m with
  | succ m => exact okBlks _ 0 o.g (by have := o.l; show w.length + 2 + 2 * m ≤ 100; have : w.length + 2 * (m + 1) ≤ 100 := this; omega)
  | zero =>
    have e : blocksB d = [] := by
      cases e : blocksB d with
      | nil => rfl
      | cons c r =>
        have := o.g c (by show c ∈ blocksB d; rw [e]; exact List.mem_cons_self)
        cases this
    intro y hy
    have hy : y ∈ blksP 0 w _ (blocksB d) 0 := hy
    rw [e] at hy
    exact (List.not_mem_nil hy).elim
theorem pend_le : ∀ l : List Pend, l.length ≤ (pendsR l).length
  | [] => Nat.zero_le _
  | x :: r => by
    have := pend_le r
    show r.length + 1 ≤ (pendR x ++ pendsR r).length
    rw [List.length_append]
    unfold pendR
    rw [List.length_cons]
    omega
theorem itemsP_drop {m : Nat} {w : List Nat} {lp : Bool} {l : List DT} {k : Nat} {d : DT} (h : l[k]? = some d) : itemsP m w lp (l.drop k) k = (m, w ++ [k], d, lp) :: itemsP m w lp (l.drop (k + 1)) (k + 1) := by
  obtain ⟨h1, h2⟩ := List.getElem?_eq_some_iff.mp h
  rw [List.drop_eq_getElem_cons h1, h2]
  rfl
theorem blksP_drop {m : Nat} {w : List Nat} {lp : Bool} {l : List DT} {k : Nat} {d : DT} (h : l[k]? = some d) : blksP m w lp (l.drop k) k = itemsP m (w ++ [k]) lp (listB d) 0 ++ blksP m w lp (l.drop (k + 1)) (k + 1) := by
  obtain ⟨h1, h2⟩ := List.getElem?_eq_some_iff.mp h
  rw [List.drop_eq_getElem_cons h1, h2]
  rfl
theorem itemsP_len {m : Nat} {w : List Nat} {lp : Bool} : ∀ (l : List DT) (i k : Nat), (itemsP m w lp (l.drop k) (i + k)).length ≤ (itemsP m w lp l i).length
  | _, _, 0 => Nat.le_refl _
  | [], _, k + 1 => Nat.zero_le _
  | d :: r, i, k + 1 => by
    have := itemsP_len (m := m) (w := w) (lp := lp) r (i + 1) k
    rw [show i + 1 + k = i + (k + 1) by omega] at this
    exact Nat.le_succ_of_le this
theorem blksP_len {m : Nat} {w : List Nat} {lp : Bool} : ∀ (l : List DT) (i k : Nat), (blksP m w lp (l.drop k) (i + k)).length ≤ (blksP m w lp l i).length
  | _, _, 0 => Nat.le_refl _
  | [], _, k + 1 => Nat.zero_le _
  | d :: r, i, k + 1 => by
    have := blksP_len (m := m) (w := w) (lp := lp) r (i + 1) k
    rw [show i + 1 + k = i + (k + 1) by omega] at this
    show (blksP m w lp (r.drop k) (i + (k + 1))).length ≤ (itemsP m (w ++ [i]) lp (listB d) 0 ++ blksP m w lp r (i + 1)).length
    rw [List.length_append]
    omega
/-- the lists while the rows are listed -/
structure LsI (K : PySem.W.Frag) (H0 H : Hp) (F0 T0 : Addr) (done : List WRow) (pend : List Pend) : Prop where
  s : Same H0 H
  ys : ∃ ys, H F0 = some (.lst ys) ∧ RowsA K H ys done
  xs : ∃ xs, H T0 = some (.lst xs) ∧ RowsA K H xs (pend.map (·.2))
theorem LsI.keep {K : PySem.W.Frag} {H0 H H' : Hp} {F0 T0 : Addr} {done : List WRow} {pend : List Pend} (I : LsI K H0 H F0 T0 done pend) (s : Same H H') : LsI K H0 H' F0 T0 done pend := by
  obtain ⟨ys, h1, h2⟩ := I.ys
  obtain ⟨xs, h3, h4⟩ := I.xs
  exact ⟨I.s.trans s, ⟨ys, s _ _ h1, RowsA.keep s h2⟩, ⟨xs, s _ _ h3, RowsA.keep s h4⟩⟩
theorem LsI.push {K : PySem.W.Frag} {H0 H : Hp} {F0 T0 : Addr} {done : List WRow} {pend : List Pend} {xs : List V} {v : V} {x : Pend} (I : LsI K H0 H F0 T0 done pend) (hn : H0 T0 = none) (ne : F0 ≠ T0) (hx : H T0 = some (.lst xs)) (h : RowA K H v x.2) :
    LsI K H0 (upd H T0 (.lst (xs ++ [v]))) F0 T0 done (pend ++ [x]) := by
  obtain ⟨ys, h1, h2⟩ := I.ys
  obtain ⟨xs', h3, h4⟩ := I.xs
  obtain rfl : xs' = xs := by
    have := Option.some.inj (h3.symm.trans hx)
    injection this
  refine ⟨fun b o e => ?_, ⟨ys, ?_, RowsA.updL hx h2⟩, ⟨_, upd_same, ?_⟩⟩
  · rw [upd_ne (ne_of_none e hn)]
    exact I.s _ _ e
  · rw [upd_ne ne]
    exact h1
  · rw [List.map_append]
    exact (RowsA.updL hx h4).append (.cons (h.updL hx) .nil)
theorem LsI.find {K : PySem.W.Frag} {H0 H : Hp} {F0 T0 : Addr} {done : List WRow} {pend : List Pend} {ys : List V} {v : V} {r : WRow} (I : LsI K H0 H F0 T0 done pend) (hn : H0 F0 = none) (ne : F0 ≠ T0) (hy : H F0 = some (.lst ys)) (h : RowA K H v r) :
    LsI K H0 (upd H F0 (.lst (ys ++ [v]))) F0 T0 (done ++ [r]) pend := by
  obtain ⟨ys', h1, h2⟩ := I.ys
  obtain ⟨xs, h3, h4⟩ := I.xs
  obtain rfl : ys' = ys := by
    have := Option.some.inj (h1.symm.trans hy)
    injection this
  refine ⟨fun b o e => ?_, ⟨_, upd_same, ?_⟩, ⟨xs, ?_, RowsA.updL hy h4⟩⟩
  · rw [upd_ne (ne_of_none e hn)]
    exact I.s _ _ e
  · exact (RowsA.updL hy h2).append (.cons (h.updL hy) .nil)
  · rw [upd_ne (Ne.symm ne)]
    exact h3
/-- the top one is taken off -/
theorem LsI.pop {K : PySem.W.Frag} {H0 H : Hp} {F0 T0 : Addr} {done : List WRow} {pend : List Pend} {x : Pend} {xs : List V} (I : LsI K H0 H F0 T0 done (pend ++ [x])) (hn : H0 T0 = none) (ne : F0 ≠ T0) (hx : H T0 = some (.lst xs)) :
    ∃ v, xs[xs.length - 1]? = some v ∧ RowA K (upd H T0 (.lst xs.dropLast)) v x.2 ∧ LsI K H0 (upd H T0 (.lst xs.dropLast)) F0 T0 done pend := by
  obtain ⟨ys, h1, h2⟩ := I.ys
  obtain ⟨xs', h3, h4⟩ := I.xs
  obtain rfl : xs' = xs := by
    have := Option.some.inj (h3.symm.trans hx)
    injection this
  have split : ∀ {xs : List V} {a : List WRow} {b : WRow}, RowsA K H xs (a ++ [b]) → ∃ us v, xs = us ++ [v] ∧ RowsA K H us a ∧ RowA K H v b := by
    intro xs a
    induction a generalizing xs with
    | nil =>
      intro b h
      cases h with
      | cons h t =>
        cases t
        exact ⟨[], _, rfl, .nil, h⟩
    | cons c r ih =>
      intro b h
      cases h with
      | cons h t =>
        obtain ⟨us, v, e, h1, h2⟩ := ih t
        exact ⟨_ :: us, v, by rw [e]; rfl, .cons h h1, h2⟩
  rw [List.map_append] at h4
  obtain ⟨us, v, e, h5, h6⟩ := split h4
  subst e
  refine ⟨v, by simp, h6.updL hx, fun b o e => ?_, ⟨ys, ?_, RowsA.updL hx h2⟩, ⟨us, ?_, RowsA.updL hx h5⟩⟩
  · rw [upd_ne (ne_of_none e hn)]
    exact I.s _ _ e
  · rw [upd_ne ne]
    exact h1
  · rw [upd_same, List.dropLast_concat]
end Oh
namespace Oh
open PySem PySem.Spec PyProof.Rows L2 PpSet
def spList5 (K : PySem.W.Frag) : Sp := fun vs H Q _ => ∃ v b lp, vs = [v] ∧ Rp K H v b ∧ goodR 12 b = true ∧ cntW 12 b ≤ 300 ∧
  ∀ L xs H', Same H H' → H L = none → H' L = some (.lst xs) → RowsA K H' xs (rowsW 12 b [] lp) → Q (.ref L) H'
/-- a new row, in the heap -/
theorem row_new {K : PySem.W.Frag} {H : Hp} {T R : Addr} {w : List Nat} {d : DT} {v : V} {lp : Bool} (hR : H R = none) (hT : H T = some (.tup (pathV w))) (rv : Rp K H v d) : RowA K (upd H R (.tup [.ref T, v])) (.ref R) (w, d, lp) :=
  ⟨R, T, v, rfl, upd_same, (Same.new hR) _ _ hT, rv.keep (Same.new hR)⟩
section
variable {P : Program} {w : World} {K : PySem.W.Frag} {mg : Str → Option Value} {base : Heap}
abbrev nLs5 : List Str := ["_law_block_here", "_law_rows_here", "_law_todo", "_law_k", "_law_step", "_law_path", "_law_statement_here", "_law_parts_here", "_law_number", "_law_part", "_law_index"]
theorem scList5 : FnScope nLs5 ["_law_block_here"] (defScope lListed) := ⟨rfl, rfl, rfl, by decide +kernel, rfl, by decide +kernel, by decide +kernel⟩
theorem ok_list5 {f fP : Addr} {fd fdP : FuncData} (F : Fun K "_law_listed" "_law_listed" lListed f fd) (T : TxtO mg) (mRev : mg "reversed" = none)
    (GP : FnOk P w K mg base CX0 1 fP fdP ["_law_statement_here"] (spBlocks K)) (kP : PySem.W.keepIn K (.ref fP) = true) (bP : Binds K fdP ["_law_statement_here"] []) (mP : mg "_law_parts" = some (.ref fP)) : FnOk P w K mg base CX0 2 f fd ["_law_block_here"] (spList5 K) := by
  refine F.ok scList5 (fun vs H Q E h => ?_) (fun cdv A outer s H vs Q E hr h => ?_)
  · obtain ⟨v, b, lp, rfl, _⟩ := h
    rfl
  · obtain ⟨v, b, lp, rfl, rb, hg, hc, k⟩ := h
    obtain ⟨hb, hi⟩ := good_parts hg
    obtain ⟨l, rfl, ll⟩ := block_inv hb
    obtain ⟨pb, xb, rfl, hpb, rab⟩ := rb.tup_inv
    have lb := rab.len
    refine ⟨_, (pss_cons (ps_set (i := 1) scList5.nd rfl (Or.inl rfl) (pe_lst pa_nil))
      (pss_cons (ps_setLc (i := 2) (own := [("_law_k", 3)]) (g := gName 3) (tt := tYes) (te := tTup (tCons (tTup (tCons (tVar 3) tNil)) (tCons (tOp (rIxT K) (tVar 0) (tVar 3)) tNil))) rfl scList5.nd rfl rfl (sw_true rfl rfl rfl (by decide +kernel)) (pi_revR (by rfl) mRev (prg_1 (by rfl) T.range (pe_callB call_len_seq (by rfl) T.len boot_len (pa_cons (pv 0) pa_nil)))) (blkOk_by (N := nLs5) (sc := defScope lListed) (by decide +kernel)) (fun _ _ _ _ _ => pg_name (i := 3) scList5.nd rfl (Or.inl rfl)) (fun _ _ _ _ _ => pts_nil) (fun _ _ _ _ _ => by exact (pe_tup (pa_cons (pe_tup (pa_cons (pv 3) pa_nil)) (pa_cons (pe_ix ix_tup (pv 0) (pv 3) (fun _ _ => rfl)) pa_nil)))))
      (pss_cons (ps_for PassesOwn.never rfl (pi_range1 (by rfl) T.range (pa_cons pe_int pa_nil)) (pg_name (i := 4) scList5.nd rfl (Or.inl rfl))
        (pss_cons (ps_if (pt_cmpR op_eq (pe_callB call_len_seq (by rfl) T.len boot_len (pa_cons (pv 2) pa_nil)) pe_int (nomark _))
          (pss_one ps_break) pss_nil)
        (pss_cons (ps_asg (pe_bm0 PySem.F.plainAttrs_list PySem.F.slot_list_pop PySem.F.type_list_pop mt_pop (pv 2)) (pg_tup rfl (pgs_cons (pg_name (i := 5) scList5.nd rfl (Or.inl rfl)) (pgs_cons (pg_name (i := 6) scList5.nd rfl (Or.inl rfl)) pgs_nil))))
        (pss_cons (ps_expr (pe_bm PySem.F.plainAttrs_list PySem.F.slot_list_append PySem.F.type_list_append mt_append (pv 1) (pa_cons (pe_tup (pa_cons (pv 5) (pa_cons (pv 6) pa_nil))) pa_nil)))
        (pss_cons (ps_set (i := 7) scList5.nd rfl (Or.inl rfl) (pe_call GP hr (by rfl) mP kP bP .nil pass0 (pa_cons (pv 6) pa_nil)))
        (pss_one (ps_for PassesOwn.never rfl (pi_revR (by rfl) mRev (prg_1 (by rfl) T.range (pe_callB call_len_seq (by rfl) T.len boot_len (pa_cons (pv 7) pa_nil)))) (pg_name (i := 8) scList5.nd rfl (Or.inl rfl))
          (pss_cons (ps_set (i := 9) scList5.nd rfl (Or.inl rfl) (pe_ix ix_list (pv 7) (pv 8) (fun _ _ => rfl)))
          (pss_one (ps_for PassesOwn.never rfl (pi_revR (by rfl) mRev (prg_1 (by rfl) T.range (pe_callB call_len_seq (by rfl) T.len boot_len (pa_cons (pv 9) pa_nil)))) (pg_name (i := 10) scList5.nd rfl (Or.inl rfl))
            (pss_one (ps_expr (pe_bm PySem.F.plainAttrs_list PySem.F.slot_list_append PySem.F.type_list_append mt_append (pv 2) (pa_cons (pe_tup (pa_cons (pe_op op_catA (pv 5) (pe_tup (pa_cons (pv 8) (pa_cons (pv 10) pa_nil)))) (pa_cons (pe_ix ix_tup (pv 9) (pv 10) (fun _ _ => rfl)) pa_nil))) pa_nil))))))))))))))
      (pss_one (ps_ret (pv 1)))))), ?_⟩
    have tot : (rowsW 12 (.tup l) [] lp).length ≤ 300 := by rw [rows_len]; exact hc
    have etot : rowsW 12 (.tup l) [] lp = pendsR (itemsP 11 [] lp l 0) := itemsP_rows (m := 11) l 0
    have few : ∀ {done pend : List _}, rowsW 12 (.tup l) [] lp = done ++ pendsR pend.reverse → done.length + pend.length ≤ 300 := fun {done pend} e => by
      have a := congrArg List.length e
      rw [List.length_append] at a
      have c := pend_le pend.reverse
      rw [List.length_reverse] at c
      omega
    refine ⟨by show 0 ≤ sizeLine; decide, fun F0 nF0 => ?_⟩
    have s0 := Same.new (o := .lst []) nF0
    have hF0 : upd H F0 (.lst []) F0 = some (.lst []) := upd_same
    generalize upd H F0 (.lst []) = H1 at s0 hF0 ⊢
    have hnl : ((xb.length : Int) - 0).toNat = l.length := by omega
    refine ⟨_, rfl, pb, xb, rfl, .inr (SqT.of (s0 _ _ hpb)), _, rfl, by decide, by decide, by omega, by omega, fun T0 nT0 => ?_⟩
    have nT : H T0 = none := s0.free nT0
    have nF : F0 ≠ T0 := fun z => by
      subst z
      rw [nT0] at hF0
      cases hF0
    refine lc_it walk_rangeC (fun i H' => LsI K H H' F0 T0 [] (itemsP 11 [] lp (l.drop (l.length - i)) (l.length - i)).reverse) ?_ (fun _ _ _ _ => trivial) ?_ ?_
    · rw [Nat.sub_zero, List.drop_length]
      exact ⟨s0.trans (Same.new nT0), ⟨[], (Same.new nT0) _ _ hF0, .nil⟩, ⟨[], upd_same, .nil⟩⟩
    · rintro i x Ha Hb hi' I ⟨e, ex⟩
      subst e
      rw [hnl] at hi'
      obtain ⟨kx, ekx⟩ : ∃ kx, l.length - i = kx + 1 := ⟨l.length - i - 1, by omega⟩
      have ekx2 : l.length - (i + 1) = kx := by omega
      have e0 : (0 : Int) + ((((xb.length : Int) - 0).toNat : Nat) : Int) - 1 + ((i : Nat) : Int) * (-1) = ((kx : Nat) : Int) := by omega
      obtain rfl : x = .int (kx : Int) := ex.trans (congrArg V.int e0)
      rw [ekx2]
      rw [ekx] at I
      have lk : kx < l.length := by omega
      have ed : l[kx]? = some l[kx] := List.getElem?_eq_getElem lk
      obtain ⟨vi, ev, rv⟩ := rab.get ed
      have lp2 : (itemsP 11 [] lp (l.drop (kx + 1)) (kx + 1)).length ≤ 12 := by
        have : ∀ (ds : List DT) (i : Nat), (itemsP 11 [] lp ds i).length = ds.length := by
          intro ds
          induction ds with
          | nil => exact fun _ => rfl
          | cons d r ih => exact fun i => congrArg Nat.succ (ih (i + 1))
        rw [this, List.length_drop]
        omega
      refine ⟨rfl, _, rfl, by show 1 ≤ sizeLine; decide, fun t nt => ?_⟩
      have s1 := Same.new (o := .tup [V.int (kx : Int)]) nt
      have ht : upd Hb t (.tup [V.int (kx : Int)]) t = some (.tup (pathV ([] ++ [kx]))) := upd_same
      have I1 := I.keep s1
      generalize upd Hb t (.tup [V.int (kx : Int)]) = H2 at s1 ht I1 ⊢
      refine ⟨_, rfl, _, rfl, pb, _, _, _, rfl, rfl, SqT.of (I1.s _ _ hpb), atI_nat ev, by show 2 ≤ sizeLine; decide, fun R nR => ?_⟩
      have I2 := I1.keep (Same.new (o := .tup [.ref t, vi]) nR)
      obtain ⟨xs, hx, rx⟩ := I2.xs
      refine ⟨xs, hx, small1000 ?_, ?_⟩
      · have := Paired.length rx
        rw [List.length_map, List.length_reverse] at this
        omega
      · rw [itemsP_drop ed, List.reverse_cons]
        exact I2.push nT nF hx (row_new (lp := lp) nR ht (rv.keep I1.s))
    · rw [hnl, Nat.sub_self, List.drop_zero]
      rintro H2 I0
      have fin : ∀ (D : Ends) (σ : L2.St) (H' : Hp) (done : List WRow), σ[1]? = some (some (.ref F0)) → LsI K H H' F0 T0 done [] → rowsW 12 (.tup l) [] lp = done ++ pendsR [] → (∀ u, D.rt u H' = Q u H') → tRet (tVar 1) D σ H' := fun D σ H' done e I tt hQ => by
        obtain ⟨ys, h1, h2⟩ := I.ys
        have e2 : done = rowsW 12 (.tup l) [] lp := by rw [tt]; show done = done ++ []; rw [List.append_nil]
        refine ⟨_, e, ?_⟩
        show D.rt _ _
        rw [hQ]
        exact k F0 ys H' I.s nF0 h1 (e2 ▸ h2)
      have okI : ∀ x ∈ (itemsP 11 [] lp l 0).reverse, OkP x := fun x hx => okItems l 0 hi (by decide) x (List.mem_reverse.mp hx)
      refine ⟨400, rfl, by decide, by decide, for_range (lo := 0) (n := 400) (fun i σ H' => ∃ (done : List WRow) (pend : List Pend) (x3 x4 x5 x6 x7 x8 x9 x10 : Option V), σ = [some (.ref pb), some (.ref F0), some (.ref T0), x3, x4, x5, x6, x7, x8, x9, x10] ∧
          LsI K H H' F0 T0 done pend ∧ (∀ x ∈ pend, OkP x) ∧ rowsW 12 (.tup l) [] lp = done ++ pendsR pend.reverse ∧ done.length = i)
        ⟨[], _, _, _, _, _, _, _, _, _, rfl, I0, okI, by rw [List.reverse_reverse, List.nil_append]; exact etot, rfl⟩ ?_ ?_⟩
      rotate_left
      · rintro σ H' ⟨done, pend, x3, x4, x5, x6, x7, x8, x9, x10, rfl, I, ok, tt, dl⟩
        have := few tt
        omega
      rintro i σ Ha hi' ⟨done, pend, x3, x4, x5, x6, x7, x8, x9, x10, rfl, I, ok, tt, dl⟩
      obtain ⟨xs, hx, rx⟩ := I.xs
      have lx : xs.length = pend.length := by rw [Paired.length rx, List.length_map]
      have fw := few tt
      refine ⟨_, rfl, T0, xs, rfl, .inl (SqL.of hx), rfl, _, rfl, ?_⟩
      rcases List.eq_nil_or_concat pend with rfl | ⟨pd, p, rfl⟩
      · obtain rfl : xs = [] := List.length_eq_zero_iff.mp lx
        refine iteT ?_
        exact fin _ _ Ha done rfl I tt fun _ => rfl
      rw [List.concat_eq_append] at *
      refine ite2 (fun z => ?_) fun _ => ?_
      · have z : V.int ((xs.length : Nat) : Int) = V.int 0 := of_decide_eq_true z
        injection z with z
        rw [lx, List.length_append] at z
        simp at z
        omega
      obtain ⟨v, ev, rv, I1⟩ := I.pop nT nF hx
      obtain ⟨R, T1, vS, rfl, hR, hT1, rS⟩ := rv
      obtain ⟨m, wp, d, lpp⟩ := p
      have op := ok _ (List.mem_append_right _ (List.mem_singleton.mpr rfl))
      have ok1 : ∀ x ∈ pd, OkP x := fun x h => ok x (List.mem_append_left _ h)
      have hR : upd Ha T0 (.lst xs.dropLast) R = some (.tup [.ref T1, vS]) := hR
      have hT1 : upd Ha T0 (.lst xs.dropLast) T1 = some (.tup (pathV wp)) := hT1
      have rS : Rp K (upd Ha T0 (.lst xs.dropLast)) vS d := rS
      refine ⟨_, rfl, .inl ⟨rfl, _, SqL.of hx⟩, T0, xs, .ref R, rfl, rfl, hx, ev, ?_⟩
      generalize upd Ha T0 (.lst xs.dropLast) = H3 at I1 hR hT1 rS ⊢
      refine ⟨R, [.ref T1, vS], rfl, SqT.of hR, rfl, .ref T1, [vS], rfl, vS, [], rfl, rfl, ?_⟩
      obtain ⟨ys, hy, ry⟩ := I1.ys
      refine ⟨_, rfl, .inl ⟨rfl, _, SqL.of hy⟩, _, rfl, _, rfl, by show 2 ≤ sizeLine; decide, fun R2 nR2 => ?_⟩
      have s4 := Same.new (o := .tup [.ref T1, vS]) nR2
      have rN : RowA K (upd H3 R2 (.tup [.ref T1, vS])) (.ref R2) (wp, d, lpp) := row_new nR2 hT1 rS
      have I2 := I1.keep s4
      have hT4 := s4 _ _ hT1
      have rS4 := rS.keep s4
      have hy4 := s4 _ _ hy
      generalize upd H3 R2 (.tup [.ref T1, vS]) = H4 at s4 rN I2 hT4 rS4 hy4 ⊢
      refine ⟨F0, ys, _, rfl, rfl, hy4, small1000 (by rw [Paired.length ry]; omega), ?_⟩
      have I3 := I2.find nF0 nF hy4 rN
      have FT : ∀ {p : Addr} {zs : List V}, H4 p = some (.tup zs) → upd H4 F0 (.lst (ys ++ [.ref R2])) p = some (.tup zs) := fun {p zs} e => by
        rw [upd_ne (fun z => by subst z; rw [hy4] at e; cases e)]
        exact e
      have hT5 := FT hT4
      have rS5 : Rp K (upd H4 F0 (.lst (ys ++ [.ref R2]))) vS d := rS4.updL hy4
      generalize upd H4 F0 (.lst (ys ++ [.ref R2])) = H5 at I3 hT5 rS5 ⊢
      refine ⟨_, rfl, vS, d, rfl, rS5, op.s, fun PL H6 zs s6 nPL hPL rz => ?_⟩
      have lz := rz.len
      have I4 := I3.keep s6
      have hT6 := s6 _ _ hT5
      have nPT : PL ≠ T0 := fun z => by
        subst z
        obtain ⟨_, h, _⟩ := I3.xs
        rw [nPL] at h
        cases h
      have tt2 : rowsW 12 (.tup l) [] lp = (done ++ [(wp, d, lpp)]) ++ pendsR (pd ++ (kidsP (m, wp, d, lpp)).reverse).reverse := by
        rw [tt, List.reverse_append, List.reverse_append, List.reverse_reverse, List.reverse_singleton]
        unfold pendsR
        rw [List.map_append, List.map_append, List.flatten_append, List.flatten_append, List.map_singleton, List.flatten_singleton, kids_rows op]
        simp [pendsR]
      have fw2 := few tt2
      rw [List.length_append, List.length_append, List.length_reverse, List.length_singleton] at fw2
      have bs : (blocksB d).length ≤ 4 := (blocks_ok op.s).2
      have hnz : ((zs.length : Int) - 0).toNat = (blocksB d).length := by omega
      clear I3 rS5 hT5 nPL rN hy4 hT4 rS4 I2 hT1 rS hR I1 hy ry
      refine ⟨_, rfl, PL, zs, rfl, .inl (SqL.of hPL), _, rfl, by decide, by decide, by omega, by omega, for_rangeC (fun j σ H' => ∃ x8 x9 x10 : Option V, σ = [some (.ref pb), some (.ref F0), some (.ref T0), x3, some (.int (0 + (i : Int))), some (.ref T1), some vS, some (.ref PL), x8, x9, x10] ∧
          LsI K H H' F0 T0 (done ++ [(wp, d, lpp)]) (pd ++ (blksP (m - 1) wp (lpOf (m, wp, d, lpp)) ((blocksB d).drop ((blocksB d).length - j)) ((blocksB d).length - j)).reverse) ∧ H' PL = some (.lst zs) ∧ RpAll K H' zs (blocksB d) ∧ H' T1 = some (.tup (pathV wp)))
        ⟨_, _, _, rfl, by rw [Nat.sub_zero, List.drop_length]; show LsI K H H6 F0 T0 _ (pd ++ []); rw [List.append_nil]; exact I4, hPL, rz, hT6⟩ ?_ ?_⟩
      rotate_left
      · rw [hnz, Nat.sub_self, List.drop_zero]
        rintro σ H' ⟨x8, x9, x10, rfl, I, _⟩
        refine ⟨_, _, _, _, _, _, _, _, _, _, rfl, I, fun x hx => ?_, tt2, by rw [List.length_append, dl]; rfl⟩
        rcases List.mem_append.mp hx with hx | hx
        · exact ok1 x hx
        · exact okKids op x (List.mem_reverse.mp hx)
      clear I4 hPL rz hT6 s6
      rintro j σ Ha hj' ⟨x8, x9, x10, rfl, I4, hPL, rz, hT6⟩
      rw [hnz] at hj'
      obtain ⟨kj, ekj⟩ : ∃ kj, (blocksB d).length - j = kj + 1 := ⟨(blocksB d).length - j - 1, by omega⟩
      have ekj2 : (blocksB d).length - (j + 1) = kj := by omega
      have e0 : (0 : Int) + ((((zs.length : Int) - 0).toNat : Nat) : Int) - 1 + ((j : Nat) : Int) * (-1) = ((kj : Nat) : Int) := by omega
      rw [e0, ekj2]
      rw [ekj] at I4
      have lkj : kj < (blocksB d).length := by omega
      have ed : (blocksB d)[kj]? = some (blocksB d)[kj] := List.getElem?_eq_getElem lkj
      have gc := op.g _ (List.getElem_mem lkj)
      rw [blksP_drop ed]
      have bl := blksP_len (m := m - 1) (w := wp) (lp := lpOf (m, wp, d, lpp)) (blocksB d) 0 (kj)
      rw [Nat.zero_add, blksP_drop ed, List.length_append] at bl
      obtain ⟨vc, evc, rc⟩ := rz.get ed
      have gc : goodR m (blocksB d)[kj] = true := gc
      generalize (blocksB d)[kj] = c at gc rc bl ⊢
      cases m with
      | zero => cases gc
      | succ m =>
      obtain ⟨cb, ci⟩ := good_parts gc
      obtain ⟨lc, rfl, lcl⟩ := block_inv cb
      obtain ⟨pc, xc, rfl, hpc, rac⟩ := rc.tup_inv
      have lxc := rac.len
      refine ⟨_, rfl, _, rfl, PL, _, _, _, rfl, rfl, SqL.of hPL, atI_nat evc, ?_⟩
      have hnc : ((xc.length : Int) - 0).toNat = lc.length := by omega
      have op2 : wp.length + 2 * (m + 1) ≤ 100 := op.l
      rw [List.reverse_append, ← List.append_assoc]
      have fw3 : done.length + 1 + (pd.length + (kidsP (m + 1, wp, d, lpp)).length) ≤ 300 := fw2
      have bl2 : (itemsP m (wp ++ [kj]) (lpOf (m + 1, wp, d, lpp)) lc 0).length + (blksP m wp (lpOf (m + 1, wp, d, lpp)) ((blocksB d).drop (kj + 1)) (kj + 1)).length ≤ (kidsP (m + 1, wp, d, lpp)).length := bl
      refine ⟨_, rfl, pc, xc, rfl, .inr (SqT.of hpc), _, rfl, by decide, by decide, by omega, by omega, for_rangeC (fun q σ H' => ∃ x10 : Option V, σ = [some (.ref pb), some (.ref F0), some (.ref T0), x3, some (.int (0 + (i : Int))), some (.ref T1), some vS, some (.ref PL), some (.int (kj : Int)), some (.ref pc), x10] ∧
          LsI K H H' F0 T0 (done ++ [(wp, d, lpp)]) (pd ++ (blksP m wp (lpOf (m + 1, wp, d, lpp)) ((blocksB d).drop (kj + 1)) (kj + 1)).reverse ++ (itemsP m (wp ++ [kj]) (lpOf (m + 1, wp, d, lpp)) (lc.drop (lc.length - q)) (lc.length - q)).reverse) ∧ H' PL = some (.lst zs) ∧ RpAll K H' zs (blocksB d) ∧ H' T1 = some (.tup (pathV wp)) ∧ H' pc = some (.tup xc) ∧ RpAll K H' xc lc)
        ⟨_, rfl, by rw [Nat.sub_zero, List.drop_length]; show LsI K H Ha F0 T0 _ (_ ++ []); rw [List.append_nil]; exact I4, hPL, rz, hT6, hpc, rac⟩ ?_ ?_⟩
      rotate_left
      · rw [hnc, Nat.sub_self, List.drop_zero]
        rintro σ H' ⟨x10, rfl, I, a1, a2, a3, _⟩
        exact ⟨_, _, _, rfl, I, a1, a2, a3⟩
      clear I4 hPL rz hT6 hpc rac rc bl cb
      rintro q σ Hq hq' ⟨x10, rfl, I4, hPL, rz, hT6, hpc, rac⟩
      rw [hnc] at hq'
      obtain ⟨kq, ekq⟩ : ∃ kq, lc.length - q = kq + 1 := ⟨lc.length - q - 1, by omega⟩
      have ekq2 : lc.length - (q + 1) = kq := by omega
      have e1 : (0 : Int) + ((((xc.length : Int) - 0).toNat : Nat) : Int) - 1 + ((q : Nat) : Int) * (-1) = ((kq : Nat) : Int) := by omega
      rw [e1, ekq2]
      rw [ekq] at I4
      have lkq : kq < lc.length := by omega
      have eq : lc[kq]? = some lc[kq] := List.getElem?_eq_getElem lkq
      obtain ⟨vq, evq, rq⟩ := rac.get eq
      rw [itemsP_drop eq]
      have il := itemsP_len (m := m) (w := wp ++ [kj]) (lp := lpOf (m + 1, wp, d, lpp)) lc 0 kq
      rw [Nat.zero_add, itemsP_drop eq, List.length_cons] at il
      obtain ⟨xs4, hx4, rx4⟩ := I4.xs
      have nP2 : PL ≠ T0 := nPT
      refine ⟨_, rfl, .inl ⟨rfl, _, SqL.of hx4⟩, _, rfl, _, rfl, _, rfl, by show 2 ≤ sizeLine; decide, fun t nt => ?_⟩
      have s8 := Same.new (o := .tup [V.int (kj : Int), V.int (kq : Int)]) nt
      have ht8 : upd Hq t (.tup [V.int (kj : Int), V.int (kq : Int)]) t = some (.tup (pathV [kj, kq])) := upd_same
      have I5 := I4.keep s8
      have hT8 := s8 _ _ hT6
      have hP8 := s8 _ _ hPL
      have rz8 := rz.keep s8
      have hc8 := s8 _ _ hpc
      have ra8 := rac.keep s8
      have rq8 := rq.keep s8
      generalize upd Hq t (.tup [V.int (kj : Int), V.int (kq : Int)]) = H8 at s8 ht8 I5 hT8 hP8 rz8 hc8 ra8 rq8 ⊢
      clear I4 hT6 hPL rz hpc rac rq s8
      refine path_go hT8 ht8 (by simp) (by show wp.length + 2 ≤ 1000; omega) fun pn H9 s9 hpn => ?_
      rw [show wp ++ [kj, kq] = wp ++ [kj] ++ [kq] by simp] at hpn
      have I6 := I5.keep s9
      refine ⟨_, rfl, _, rfl, pc, _, _, _, rfl, rfl, SqT.of (s9 _ _ hc8), atI_nat evq, by show 2 ≤ sizeLine; decide, fun R nR => ?_⟩
      have sA := Same.new (o := .tup [.ref pn, vq]) nR
      have rowN : RowA K (upd H9 R (.tup [.ref pn, vq])) (.ref R) (wp ++ [kj] ++ [kq], lc[kq], lpOf (m + 1, wp, d, lpp)) := row_new nR hpn (rq8.keep s9)
      have I7 := I6.keep sA
      have sB := s9.trans sA
      have hT9 := sB _ _ hT8
      have hP9 := sB _ _ hP8
      have rz9 := rz8.keep sB
      have hc9 := sB _ _ hc8
      have ra9 := ra8.keep sB
      obtain ⟨xs9, hx9, rx9⟩ := I7.xs
      have FT9 : ∀ {p : Addr} {zs : List V}, upd H9 R (.tup [.ref pn, vq]) p = some (.tup zs) → upd (upd H9 R (.tup [.ref pn, vq])) T0 (.lst (xs9 ++ [.ref R])) p = some (.tup zs) := fun {p zs} e => by
        rw [upd_ne (fun z => by rw [z, hx9] at e; cases e)]
        exact e
      have lx9 := Paired.length rx9
      rw [List.length_map, List.length_append, List.length_append, List.length_reverse, List.length_reverse] at lx9
      refine ⟨T0, xs9, _, rfl, rfl, hx9, small1000 (by omega), _, rfl, ?_, ?_, rz9.updL hx9, FT9 hT9, FT9 hc9, ra9.updL hx9⟩
      · rw [List.reverse_cons, ← List.append_assoc]
        exact I7.push nT nF hx9 rowN
      · rw [upd_ne nP2]
        exact hP9
end
end Oh
namespace Oh
open PySem PySem.Spec PyProof.Rows L2 PpSet
theorem lt_irr : ∀ a : List Nat, ltCps a a = false
  | [] => rfl
  | a :: r => by simp [ltCps, lt_irr r]
theorem lt_anti : ∀ {a b : List Nat}, ltCps a b = false → ltCps b a = false → a = b
  | [], [], _, _ => rfl
  | [], _ :: _, h, _ => by simp [ltCps] at h
  | _ :: _, [], _, h => by simp [ltCps] at h
  | a :: r, b :: s, h1, h2 => by
    simp only [ltCps, Bool.or_eq_false_iff, Bool.and_eq_false_iff, decide_eq_false_iff_not, beq_eq_false_iff_ne] at h1 h2
    have e : a = b := by omega
    subst e
    have e2 : r = s := lt_anti (h1.2.resolve_left fun z => z rfl) (h2.2.resolve_left fun z => z rfl)
    rw [e2]
theorem le_tr : ∀ {a b c : List Nat}, ltCps b a = false → ltCps c b = false → ltCps c a = false
  | _, _, [], h1, h2 => by
    rename_i a b
    cases a with
    | nil => rfl
    | cons x r =>
      cases b with
      | nil => simp [ltCps] at h1
      | cons y s => simp [ltCps] at h2
  | [], _, _ :: _, _, _ => by simp [ltCps]
  | _ :: _, [], _ :: _, h, _ => by simp [ltCps] at h
  | a :: r, b :: s, c :: t, h1, h2 => by
    simp only [ltCps, Bool.or_eq_false_iff, Bool.and_eq_false_iff, decide_eq_false_iff_not, beq_eq_false_iff_ne] at h1 h2 ⊢
    refine ⟨by omega, ?_⟩
    by_cases e : c = a
    · subst e
      have e : b = c := by omega
      subst e
      exact .inr (le_tr (h1.2.resolve_left fun z => z rfl) (h2.2.resolve_left fun z => z rfl))
    · exact .inl e
theorem str_ext {a b : Str} (h : a.cps.toList = b.cps.toList) : a = b := by
  cases a; cases b
  simpa using h
abbrev leS (a b : Str) : Prop := ltCps b.cps.toList a.cps.toList = false
theorem rising_pw : ∀ (p : Str) (l : List Str), risingS p l = true → (p :: l).Pairwise leS
  | p, [], _ => .cons (fun _ h => absurd h List.not_mem_nil) .nil
  | p, x :: r, h => by
    have h : (!ltCps x.cps.toList p.cps.toList && risingS x r) = true := h
    obtain ⟨h1, h2⟩ := Bool.and_eq_true_iff.mp h
    have ih := rising_pw x r h2
    have h1 : leS p x := by simpa using h1
    refine .cons (fun y hy => ?_) ih
    rcases List.mem_cons.mp hy with rfl | hy
    · exact h1
    · cases ih with
      | cons a _ => exact le_tr h1 (a y hy)
theorem sorted_pw {l : List Str} (h : sortedS l = true) : l.Pairwise leS := by
  cases l with
  | nil => exact .nil
  | cons x r => exact rising_pw x r h
theorem pw_uniq : ∀ {xs ys : List Str}, xs.Perm ys → xs.Pairwise leS → ys.Pairwise leS → xs = ys
  | [], ys, h, _, _ => (List.nil_perm.mp h).symm ▸ rfl
  | x :: r, [], h, _, _ => absurd h.length_eq (by simp)
  | x :: r, y :: s, h, hx, hy => by
    cases hx with
    | cons h1 h2 =>
      cases hy with
      | cons h3 h4 =>
        have e : x = y := by
          have m1 : x ∈ y :: s := h.mem_iff.mp List.mem_cons_self
          have m2 : y ∈ x :: r := h.mem_iff.mpr List.mem_cons_self
          rcases List.mem_cons.mp m1 with e | m1
          · exact e
          · rcases List.mem_cons.mp m2 with e | m2
            · exact e.symm
            · exact str_ext (lt_anti (h3 x m1) (h1 y m2))
        subst e
        rw [pw_uniq h.cons_inv h2 h4]
/-- the sorted list of the names of a routine -/
structure AscOf (l ys : List Str) : Prop where
  s : sortedS ys = true
  n : ys.Nodup
  m : ∀ k, k ∈ ys ↔ k ∈ l
theorem AscOf.uniq {l ys zs : List Str} (a : AscOf l ys) (b : AscOf l zs) : ys = zs :=
  pw_uniq ((List.perm_ext_iff_of_nodup a.n b.n).mpr fun k => (a.m k).trans (b.m k).symm) (sorted_pw a.s) (sorted_pw b.s)
theorem sorted_uniq {xs ys zs : List Str} (h1 : xs.Perm zs) (s1 : sortedS xs = true) (h2 : ys.Perm zs) (s2 : sortedS ys = true) : xs = ys := pw_uniq (h1.trans h2.symm) (sorted_pw s1) (sorted_pw s2)
end Oh
/-! sorted(a list of texts), any number of them. -/
namespace Oh
open PySem PySem.Spec PyProof.Rows L2 PpSet
def rSortTxA (K : PySem.W.Frag) : List V → Hp → VK → Prop := fun vs H Q => ∃ (L : Addr) (zs : List Str), vs = [V.ref L] ∧ SqL K H L (zs.map V.str) ∧
  ∀ (ys : List Str) (p : Addr), ys.Perm zs → sortedS ys = true → H p = none → Q (.ref p) (upd H p (.lst (ys.map V.str)))
theorem cr_sortTxA {X : Cx} : CallR X (.builtin "sorted") (rSortTxA X.K) := by
  rintro pins s σ H vs us Q J r ⟨L, zs, rfl, hs, q⟩
  obtain ⟨its, rv, pl, few⟩ := J.list hs
  rw [Vals.ref1 r]
  refine PyProof.Rows.sorted_strsAny pl.isList rv.strs (by rw [← rv.length]; exact few) fun out ys sa pm so => ?_
  obtain ⟨ep, there⟩ := PyProof.Rows.sortedAll_at s.heap its out
  have lz : (ys.map V.str).length ≤ sizeLine := by
    rw [List.length_map] at few ⊢
    rw [pm.length_eq]
    exact few
  refine ⟨.ref _, upd H (s.heap.objs.size + 1) (.lst (ys.map V.str)), ?_, rfl, q ys _ pm so (J.hok.fresh (Nat.le_succ _))⟩
  exact J.laid (t' := s.toks) (fun _ _ => PyProof.Rows.sortedAll_old) (Nat.le_succ _) ⟨lz, out.toList, ep, vals_of_strs sa, there⟩
end Oh
namespace Oh
open PySem PySem.Spec PyProof.Rows L2 PpSet
theorem pw_rising : ∀ (p : Str) (l : List Str), (p :: l).Pairwise leS → risingS p l = true
  | p, [], _ => rfl
  | p, x :: r, h => by
    cases h with
    | cons h1 h2 =>
      show (!ltCps x.cps.toList p.cps.toList && risingS x r) = true
      rw [pw_rising x r h2, Bool.and_true]
      have := h1 x List.mem_cons_self
      simpa using this
theorem pw_sorted {l : List Str} (h : l.Pairwise leS) : sortedS l = true := by
  cases l with
  | nil => rfl
  | cons x r => exact pw_rising x r h
theorem atI_last {α : Type} {l : List α} {z : α} : atI (l ++ [z]) (-1) = some z := by
  have e : ixN (l ++ [z]).length (-1) = some l.length := by
    unfold ixN
    rw [List.length_append, List.length_singleton]
    rw [if_neg (by omega), if_pos (by omega)]
    congr 1
    omega
  unfold atI
  rw [e]
  simp
/-- a list, ascending, each once -/
def spOnce (K : PySem.W.Frag) : Sp := fun vs H Q _ => ∃ L, ∃ zs : List Str, vs = [.ref L] ∧ H L = some (.lst (zs.map V.str)) ∧ zs.length ≤ 100000 ∧
  ∀ (ys : List Str) p H', Same H H' → H p = none → H' p = some (.lst (ys.map V.str)) → AscOf zs ys → Q (.ref p) H'
theorem once_last {ys : List Str} (pw : ys.Pairwise leS) {i j : Nat} {a b : Str} (ha : ys[i]? = some a) (hb : ys[j]? = some b) (h : i ≤ j) : leS a b := by
  by_cases e : i = j
  · subst e
    obtain rfl := Option.some.inj (ha.symm.trans hb)
    exact lt_irr _
  · obtain ⟨h1, e1⟩ := List.getElem?_eq_some_iff.mp ha
    obtain ⟨h2, e2⟩ := List.getElem?_eq_some_iff.mp hb
    have := List.pairwise_iff_getElem.mp pw i j h1 h2 (by omega)
    rw [e1, e2] at this
    exact this
/-- what the walk has found of the first i -/
structure OnceI (ys : List Str) (i : Nat) (fs : List Str) : Prop where
  p : fs.Pairwise leS
  n : fs.Nodup
  m : ∀ x, x ∈ fs ↔ x ∈ ys.take i
  l : (i = 0 ∧ fs = []) ∨ ∃ j z gs, i = j + 1 ∧ ys[j]? = some z ∧ fs = gs ++ [z]
  k : fs.length ≤ i
theorem OnceI.same {ys : List Str} {i : Nat} {fs : List Str} {y : Str} (h : OnceI ys i fs) (e : ys[i]? = some y) {gs : List Str} (ef : fs = gs ++ [y]) : OnceI ys (i + 1) fs := by
  refine ⟨h.p, h.n, fun x => ?_, .inr ⟨i, y, gs, rfl, e, ef⟩, Nat.le_succ_of_le h.k⟩
  have hy : y ∈ fs := by rw [ef]; simp
  rw [List.take_add_one, e, h.m]
  constructor
  · exact fun z => List.mem_append_left _ z
  · intro z
    rcases List.mem_append.mp z with z | z
    · exact z
    · obtain rfl := List.mem_singleton.mp z
      exact (h.m _).mp hy
theorem OnceI.more {ys : List Str} (pw : ys.Pairwise leS) {i : Nat} {fs : List Str} {y : Str} (h : OnceI ys i fs) (e : ys[i]? = some y) (ne : ∀ gs z, fs = gs ++ [z] → z ≠ y) : OnceI ys (i + 1) (fs ++ [y]) := by
  have ni : y ∉ fs := by
    intro hy
    rcases h.l with ⟨_, h0⟩ | ⟨j, z, gs, rfl, ez, ef⟩
    · rw [h0] at hy
      cases hy
    · refine ne gs z ef ?_
      have a1 : leS z y := once_last pw ez e (Nat.le_succ j)
      have a2 : leS y z := by
        obtain ⟨q, hq⟩ := List.getElem?_of_mem ((h.m y).mp hy)
        have lq : q < j + 1 := by
          have := (List.getElem?_eq_some_iff.mp hq).1
          rw [List.length_take] at this
          omega
        rw [List.getElem?_take_of_lt lq] at hq
        exact once_last pw hq ez (by omega)
      exact str_ext (lt_anti a2 a1)
  refine ⟨List.pairwise_append.mpr ⟨h.p, List.pairwise_singleton _ _, fun a ha b hb => ?_⟩, List.nodup_append.mpr ⟨h.n, by simp, fun a ha b hb => ?_⟩, fun x => ?_, .inr ⟨i, y, fs, rfl, e, rfl⟩, ?_⟩
  · obtain rfl := List.mem_singleton.mp hb
    obtain ⟨q, hq⟩ := List.getElem?_of_mem ((h.m a).mp ha)
    have lq : q < i := by
      have := (List.getElem?_eq_some_iff.mp hq).1
      rw [List.length_take] at this
      omega
    rw [List.getElem?_take_of_lt lq] at hq
    exact once_last pw hq e (by omega)
  · obtain rfl := List.mem_singleton.mp hb
    exact fun z => ni (z ▸ ha)
  · rw [List.take_add_one, e, List.mem_append, List.mem_append, h.m]
    rfl
  · rw [List.length_append, List.length_singleton]
    exact Nat.succ_le_succ h.k
section
variable {P : Program} {w : World} {K : PySem.W.Frag} {mg : Str → Option Value} {base : Heap}
abbrev nOn : List Str := ["_law_items", "_law_found", "_law_item"]
theorem scOnce : FnScope nOn ["_law_items"] (defScope lOnce) := ⟨rfl, rfl, rfl, by decide +kernel, rfl, by decide +kernel, by decide +kernel⟩
theorem ok_once {f : Addr} {fd : FuncData} (F : Fun K "_law_once" "_law_once" lOnce f fd) (T : TxtO mg) (mso : mg "sorted" = none) : FnOk P w K mg base CX0 1 f fd ["_law_items"] (spOnce K) := by
  refine F.ok scOnce (fun vs H Q E h => ?_) (fun cdv A outer s H vs Q E hr h => ?_)
  · obtain ⟨L, zs, rfl, _⟩ := h
    rfl
  · obtain ⟨L, zs, rfl, hL, few, k⟩ := h
    refine ⟨_, (pss_cons (ps_set (i := 1) scOnce.nd rfl (Or.inl rfl) (pe_lst pa_nil))
      (pss_cons (ps_for PassesOwn.never rfl (pi_list (pe_callB cr_sortTxA (by rfl) mso boot_sorted (pa_cons (pv 0) pa_nil))) (pg_name (i := 2) scOnce.nd rfl (Or.inl rfl))
        (pss_one (ps_if (pw_or (pt_cmpR op_eq (pe_callB call_len_seq (by rfl) T.len boot_len (pa_cons (pv 1) pa_nil)) pe_int (nomark _)) (pw_or1 (pt_cmpR op_ne (pe_ix ix_list (pv 1) (pe_un un_neg pe_int) (fun _ _ => rfl)) (pv 2) (nomark _)))).pt
          (pss_one (ps_expr (pe_bm PySem.F.plainAttrs_list PySem.F.slot_list_append PySem.F.type_list_append mt_append (pv 1) (pa_cons (pv 2) pa_nil)))) pss_nil)))
      (pss_one (ps_ret (pv 1))))), ?_⟩
    refine ⟨by show 0 ≤ sizeLine; decide, fun F0 nF => ?_⟩
    have s0 := Same.new (o := .lst []) nF
    refine ⟨_, rfl, L, zs, rfl, SqL.of (s0 _ _ hL), fun ys q pm so nq => ?_⟩
    have pw := sorted_pw so
    have sq := Same.new (o := .lst (ys.map V.str)) nq
    have s1 := s0.trans sq
    have hq : upd (upd H F0 (.lst [])) q (.lst (ys.map V.str)) q = some (.lst (ys.map V.str)) := upd_same
    have hF := sq _ _ (upd_same (H := H) (a := F0) (o := .lst []))
    have qF : q ≠ F0 := fun z => by
      subst z
      rw [upd_same] at nq
      cases nq
    generalize upd (upd H F0 (.lst [])) q (.lst (ys.map V.str)) = H1 at s1 hq hF ⊢
    clear sq s0
    have ly : ys.length ≤ 100000 := by rw [pm.length_eq]; exact few
    refine ⟨q, rfl, ⟨_, SqL.of hq⟩, for_it (walk_list (K := K) (a := q) (xs := ys.map V.str)) (fun i σ H' => ∃ (fs : List Str) (x2 : Option V), σ = [some (.ref L), some (.ref F0), x2] ∧ Same H H' ∧ H' q = some (.lst (ys.map V.str)) ∧ H' F0 = some (.lst (fs.map V.str)) ∧ OnceI ys i fs)
      ⟨[], _, rfl, s1, hq, hF, .nil, .nil, fun x => Iff.rfl, .inl ⟨rfl, rfl⟩, Nat.le_refl _⟩ (fun i σ H' _ ⟨_, _, _, _, h, _⟩ => SqL.of h) ?_ ?_⟩
    · rintro i x σ Ha Hb hi ⟨fs, x2, rfl, sa, hqa, hFa, hI⟩ ⟨e, ex⟩
      subst e
      obtain ⟨y, ey, rfl⟩ : ∃ y, ys[i]? = some y ∧ x = .str y := by
        rw [List.getElem?_map] at ex
        cases en : ys[i]? with
        | none => rw [en] at ex; cases ex
        | some nm => rw [en] at ex; exact ⟨nm, rfl, (Option.some.inj ex).symm⟩
      have li : i < ys.length := (List.getElem?_eq_some_iff.mp ey).1
      have lenF : (fs.map V.str).length < sizeLine := by
        rw [List.length_map]
        have := hI.k
        exact Nat.lt_of_le_of_lt (show fs.length ≤ 100000 by omega) (by decide)
      have sm : Same H (upd Hb F0 (.lst (fs.map V.str ++ [.str y]))) := fun b o e => by
        rw [upd_ne (ne_of_none e nF)]
        exact sa _ _ e
      have hqq : upd Hb F0 (.lst (fs.map V.str ++ [.str y])) q = some (.lst (ys.map V.str)) := by
        rw [upd_ne qF]
        exact hqa
      have hFF : upd Hb F0 (.lst (fs.map V.str ++ [.str y])) F0 = some (.lst ((fs ++ [y]).map V.str)) := by
        rw [upd_same, List.map_append]
        rfl
      refine ⟨_, rfl, F0, _, rfl, .inl (SqL.of hFa), rfl, _, rfl, ?_⟩
      rcases hI.l with ⟨rfl, rfl⟩ | ⟨j, z, gs, rfl, ez, rfl⟩
      · refine iteT ⟨_, rfl, .inl ⟨rfl, _, SqL.of hFa⟩, _, rfl, F0, _, _, rfl, rfl, hFa, lenF, [] ++ [y], _, rfl, sm, hqq, hFF, hI.more pw ey fun gs z h => ?_⟩
        cases gs <;> cases h
      · refine ite2 (fun z' => absurd (of_decide_eq_true z') (by simp; omega)) fun _ => ?_
        refine ⟨_, rfl, _, rfl, F0, _, _, _, rfl, rfl, SqL.of hFa, by rw [List.map_append]; exact atI_last, _, rfl, rfl, _, rfl, ?_⟩
        by_cases c : z = y
        · subst c
          refine iteF' (by rw [decide_eq_true rfl]; rfl) ?_
          exact ⟨_, _, rfl, sa, hqa, hFa, hI.same ey rfl⟩
        · refine iteT' (by rw [decide_eq_false fun e => c (V.str.inj e)]; rfl) ?_
          refine ⟨_, rfl, .inl ⟨rfl, _, SqL.of hFa⟩, _, rfl, F0, _, _, rfl, rfl, hFa, lenF, gs ++ [z] ++ [y], _, rfl, sm, hqq, hFF, hI.more pw ey fun gs' z' h => ?_⟩
          have := (List.append_inj' h rfl).2
          rw [← List.singleton_inj.mp this]
          exact c
    · rintro σ H2 ⟨fs, x2, rfl, s2, _, hF2, hI⟩
      have hm := hI.m
      rw [List.length_map, List.take_length] at hm
      refine ⟨_, rfl, k fs F0 H2 s2 nF hF2 ⟨pw_sorted hI.p, hI.n, fun x => by rw [hm, pm.mem_iff]⟩⟩
end
end Oh
namespace Oh
open PySem PySem.Spec PyProof.Rows L2 PpSet
section
variable {P : Program} {w : World} {K : PySem.W.Frag} {mg : Str → Option Value} {base : Heap}
abbrev nPo5 : List Str := ["_law_statement_here", "_law_row"]
theorem scPorts5 : FnScope nPo5 ["_law_statement_here"] (defScope lPorts) := ⟨rfl, rfl, rfl, by decide +kernel, rfl, by decide +kernel, by decide +kernel⟩
theorem ok_ports5 {f : Addr} {fd : FuncData} (F : Fun K "_law_ports" "_law_ports" lPorts f fd) : FnOk P w K mg base CX0 1 f fd ["_law_statement_here"] (spStrs K portsB) := by
  refine F.ok scPorts5 (fun vs H Q E h => ?_) (fun cdv A outer s H vs Q E hr h => ?_)
  · obtain ⟨v, d, rfl, _⟩ := h
    rfl
  · obtain ⟨v, d, rfl, r, hs, k⟩ := h
    obtain ⟨g, l, hk, hg, el⟩ := stmt_inv hs
    obtain ⟨p, xs, rfl, hp, ra⟩ := (el ▸ r : Rp K H v (.tup (.str (headB d) :: l))).tup_inv
    have hl := ra.len
    have ll := len_of el
    obtain ⟨v0, x0, r0⟩ := ra.get (i := 0) rfl
    cases r0
    have ge : ∀ {a b : Str}, a ≠ b → ¬ decide (V.str a = V.str b) = true := fun h z => h (V.str.inj (of_decide_eq_true z))
    refine ⟨_, (pss_cons (ps_if (pt_cmpR op_in_seq (pe_ix ix_tup (pv 0) pe_int (fun _ _ => rfl)) (pe_tup (pa_cons pe_str (pa_cons pe_str pa_nil))) (by rfl))
        (pss_one (ps_ret (pe_lst (pa_cons (pe_ix ix_tup (pv 0) pe_int (fun _ _ => rfl)) pa_nil)))) pss_nil)
      (pss_cons (ps_if (pt_cmpR op_eq (pe_ix ix_tup (pv 0) pe_int (fun _ _ => rfl)) pe_str (nomark _))
        (pss_one (ps_ret (pe_lc (own := [("_law_row", 1)]) (g := gName 1) (tt := tYes) (te := tOp (rIxT K) (tVar 1) (tC (.int 0))) rfl scPorts5.nd (pi_tup (pe_ix ix_tup (pv 0) pe_int (fun _ _ => rfl))) (blkOk_by (N := nPo5) (sc := defScope lPorts) (by decide +kernel)) (fun _ _ _ _ _ => pg_name (i := 1) scPorts5.nd rfl (Or.inl rfl)) (fun _ _ _ _ _ => pts_nil) (fun _ _ _ _ _ => by exact (pe_ix ix_tup (pv 1) pe_int (fun _ _ => rfl)))))) pss_nil)
      (pss_one (ps_ret (pe_lst pa_nil))))), ?_⟩
    refine ⟨_, rfl, p, _, _, _, rfl, rfl, SqT.of hp, at_of (j := 0) rfl x0, by show 2 ≤ sizeLine; decide, fun t nt => ⟨t, _, rfl, .inr (SqT.of upd_same), rfl, rfl, _, rfl, ?_⟩⟩
    have s1 := Same.new (o := .tup [.str "tell", .str "hear"]) nt
    have hp1 := s1 _ _ hp
    have ra1 := ra.keep s1
    generalize upd H t (.tup [.str "tell", .str "hear"]) = H1 at s1 hp1 ra1 ⊢
    by_cases c : headB d = "tell" ∨ headB d = "hear"
    · have hin : inV (V.str (headB d)) [.str "tell", .str "hear"] = true := by rcases c with c | c <;> (rw [c]; decide +kernel)
      refine iteT' hin ?_
      have hb : portsB d = [strB (argB d 1)] := by unfold portsB; rw [if_pos c]
      rw [hb] at k
      have h2 : lenB d = 3 ∧ nameB (argB d 1) = true := by
        rcases c with c | c
        · exact ⟨(tell_len hs (.inr c)).1, (tell_len hs (.inr c)).2.1⟩
        · exact ⟨(hear_len hs c).1, (hear_len hs c).2.1⟩
      obtain ⟨v1, x1, r1⟩ := arg_at (i := 1) ra1 (by rw [← ll, h2.1]; decide)
      rw [← el] at r1
      obtain rfl := name_inv r1 h2.2
      exact ⟨_, rfl, p, _, _, _, rfl, rfl, SqT.of hp1, at_of (j := 1) rfl x1, (by show 1 ≤ sizeLine; decide), fun q nq => k q _ (s1.trans (Same.new nq)) (s1.free nq) upd_same⟩
    · have hin : inV (V.str (headB d)) [.str "tell", .str "hear"] = false := by
        have n1 : headB d ≠ "tell" := fun z => c (.inl z)
        have n2 : headB d ≠ "hear" := fun z => c (.inr z)
        have := inV_strs (headB d) ["tell", "hear"]
        refine this.trans (decide_eq_false fun z => ?_)
        rcases List.mem_cons.mp z with z | z
        · exact n1 z
        · exact n2 (List.mem_singleton.mp z)
      refine iteF' hin ?_
      refine ⟨_, rfl, p, _, _, _, rfl, rfl, SqT.of hp1, at_of (j := 0) rfl x0, rfl, _, rfl, ?_⟩
      by_cases c4 : headB d = "wait"
      · refine ite2 (fun _ => ?_) (fun z => absurd (decide_eq_true (by rw [c4])) z)
        have hb : portsB d = (listB (argB d 1)).map portB := by unfold portsB; rw [if_neg c, if_pos c4]
        obtain ⟨z1, z2, z3, _⟩ := wait_len hs c4
        rw [hb] at k
        obtain ⟨v1, x1, r1⟩ := arg_at (i := 1) ra1 (by rw [← ll, z1]; decide)
        rw [← el] at r1
        obtain ⟨m, em, lm⟩ := choice_inv z2
        rw [em] at r1 k z3
        obtain ⟨q1, ys, rfl, hq1, rm⟩ := r1.tup_inv
        refine ⟨_, rfl, p, _, _, _, rfl, rfl, SqT.of hp1, at_of (j := 1) rfl x1, q1, rfl, ⟨_, SqT.of hq1⟩, fun D nD => lc_it (walk_tup (xs := ys)) (fun i H' => Same H1 H' ∧ H' D = some (.lst (((m.map portB).take i).map V.str))) ⟨Same.new nD, upd_same⟩ (fun i H' _ z => SqT.of (z.1 _ _ hq1)) ?_ ?_⟩
        · rintro i x Ha Hb hi ⟨sa, da⟩ ⟨e, ex⟩
          subst e
          have li : i < m.length := by rw [← rm.len]; exact hi
          obtain ⟨vi, ev, rv⟩ := rm.get (i := i) (d := m[i]) (List.getElem?_eq_getElem li)
          obtain rfl := Option.some.inj (ev.symm.trans ex)
          obtain ⟨lr, zs, er, ez, ep⟩ := row_inv (z3 _ (List.getElem_mem li))
          rw [er] at rv
          obtain ⟨pr, xr, rfl, hpr, rr⟩ := rv.tup_inv
          obtain ⟨vz, evz, rz⟩ := rr.get (i := 0) ez
          cases rz
          have lc : (m.map portB)[i]? = some zs := by rw [List.getElem?_map, List.getElem?_eq_getElem li, ← ep]; rfl
          refine ⟨rfl, _, rfl, pr, _, _, _, rfl, rfl, SqT.of (sa _ _ hpr), at_of (j := 0) rfl evz, _, da, ?_, fun b o e => ?_, ?_⟩
          · rw [List.length_map, List.length_take, List.length_map]
            exact Nat.lt_of_le_of_lt (Nat.min_le_right _ _) (Nat.lt_of_le_of_lt lm (by decide))
          · rw [upd_ne (ne_of_none e nD)]
            exact sa _ _ e
          · rw [upd_same, List.take_add_one, lc]
            simp
        · rintro H2 ⟨s2, d2⟩
          rw [List.take_of_length_le (by rw [List.length_map, rm.len]; exact Nat.le_refl _)] at d2
          exact k D H2 (s1.trans s2) (s1.free nD) d2
      · refine ite2 (fun z => absurd z (ge c4)) fun _ => ?_
        have hb : portsB d = [] := by unfold portsB; rw [if_neg c, if_neg c4]
        rw [hb] at k
        exact ⟨by show 0 ≤ sizeLine; decide, fun q nq => k q _ (s1.trans (Same.new nq)) (s1.free nq) upd_same⟩
end
end Oh
namespace Oh
open PySem PySem.Spec PyProof.Rows L2 PpSet
theorem sub_len : ∀ {fs S : List Str}, fs.Nodup → (∀ x ∈ fs, x ∈ S) → fs.length ≤ S.length
  | [], _, _, _ => Nat.zero_le _
  | x :: r, S, hn, hs => by
    obtain ⟨n1, n2⟩ := List.nodup_cons.mp hn
    have hx := hs x List.mem_cons_self
    have ih := sub_len (fs := r) (S := S.erase x) n2 fun y hy => (List.mem_erase_of_ne (fun e : y = x => n1 (by rw [← e]; exact hy))).mpr (hs y (List.mem_cons_of_mem _ hy))
    rw [List.length_erase_of_mem hx] at ih
    have := List.length_pos_of_mem hx
    rw [List.length_cons]
    omega
abbrev namesW (rs : List WRow) : List Str := (rs.map fun r => namesB r.2.1).flatten
theorem namesW_succ {rs : List WRow} {i : Nat} {r : WRow} (h : rs[i]? = some r) : namesW (rs.take (i + 1)) = namesW (rs.take i) ++ namesB r.2.1 := by
  unfold namesW
  rw [List.take_add_one, h]
  simp
def spNames9 (K : PySem.W.Frag) : Sp := fun vs H Q _ => ∃ L xs rs, ∃ S1 : List Str, vs = [.ref L] ∧ H L = some (.lst xs) ∧ RowsA K H xs rs ∧ (∀ r ∈ rs, stmtB r.2.1 = true) ∧ (∀ x ∈ namesW rs, x ∈ S1) ∧ S1.length < 64 ∧
  ∀ (zs : List Str) p H', Same H H' → H p = none → H' p = some (.lst (zs.map V.str)) → AscOf (namesW rs) zs → Q (.ref p) H'
end Oh
namespace Oh
open PySem PySem.Spec PyProof.Rows L2 PpSet
/-- tuples that are the paths -/
abbrev PathsW (H : Hp) (bs : List Addr) (ws : List (List Nat)) : Prop := Paired (fun (b : Addr) (u : List Nat) => H b = some (.tup (pathV u))) bs ws
theorem PathsW.keep {H H' : Hp} (s : Same H H') : ∀ {bs : List Addr} {ws : List (List Nat)}, PathsW H bs ws → PathsW H' bs ws
  | _, _, .nil => .nil
  | _, _, .cons h t => .cons (s _ _ h) (PathsW.keep s t)
theorem PathsW.updL {H : Hp} {D : Addr} {xs : List V} (hD : H D = some (.lst xs)) {z : HO} : ∀ {bs : List Addr} {ws : List (List Nat)}, PathsW H bs ws → PathsW (upd H D z) bs ws
  | _, _, .nil => .nil
  | _, _, .cons (a := b) h t => .cons (show upd H D z b = _ by rw [upd_ne (fun e => by have h : H b = _ := h; rw [e, hD] at h; cases h)]; exact h) (PathsW.updL hD t)
theorem PathsW.append {H : Hp} : ∀ {as bs : List Addr} {ps qs : List (List Nat)}, PathsW H as ps → PathsW H bs qs → PathsW H (as ++ bs) (ps ++ qs)
  | _, _, _, _, .nil, h => h
  | _, _, _, _, .cons h t, z => .cons h (PathsW.append t z)
abbrev portsW (rs : List WRow) : List Str := (rs.map fun r => portsB r.2.1).flatten
theorem portsW_succ {rs : List WRow} {i : Nat} {r : WRow} (h : rs[i]? = some r) : portsW (rs.take (i + 1)) = portsW (rs.take i) ++ portsB r.2.1 := by
  unfold portsW
  rw [List.take_add_one, h]
  simp
abbrev openW (r : WRow) : Bool := decide (headB r.2.1 = "open")
theorem namesB_len {d : DT} (h : stmtB d = true) : (namesB d).length ≤ 20 := by
  unfold namesB
  by_cases c1 : headB d = "set"
  · rw [if_pos c1]
    have := names_few 4 (argB d 2) (tell_len h (.inl c1)).2.2
    rw [List.length_cons]
    omega
  rw [if_neg c1]
  by_cases c2 : headB d = "tell"
  · rw [if_pos c2]
    have := names_few 4 (argB d 2) (tell_len h (.inr c2)).2.2
    omega
  rw [if_neg c2]
  by_cases c3 : headB d = "if"
  · rw [if_pos c3]
    have := names_few 4 (argB d 1) (if_len h c3).2.2.2
    omega
  rw [if_neg c3]
  by_cases c5 : headB d = "hear"
  · rw [if_pos c5]
    exact Nat.le_of_ble_eq_true rfl
  rw [if_neg c5]
  by_cases c4 : headB d = "wait"
  · rw [if_pos c4, List.length_map]
    obtain ⟨m, em, lm⟩ := choice_inv (wait_len h c4).2.1
    rw [em]
    show m.length ≤ 20
    omega
  · rw [if_neg c4]
    decide
theorem portsB_len {d : DT} (h : stmtB d = true) : (portsB d).length ≤ 20 := by
  unfold portsB
  by_cases c : headB d = "tell" ∨ headB d = "hear"
  · rw [if_pos c]
    exact Nat.le_of_ble_eq_true rfl
  rw [if_neg c]
  by_cases c4 : headB d = "wait"
  · rw [if_pos c4, List.length_map]
    obtain ⟨m, em, lm⟩ := choice_inv (wait_len h c4).2.1
    rw [em]
    show m.length ≤ 20
    omega
  · rw [if_neg c4]
    decide
theorem flat_len {g : DT → List Str} : ∀ (rs : List WRow), (∀ r ∈ rs, (g r.2.1).length ≤ 20) → ((rs.map fun r => g r.2.1).flatten).length ≤ rs.length * 20
  | [], _ => Nat.zero_le _
  | r :: rs, h => by
    have a := h r List.mem_cons_self
    have b := flat_len rs fun x hx => h x (List.mem_cons_of_mem _ hx)
    rw [List.map_cons, List.flatten_cons, List.length_append, List.length_cons, Nat.succ_mul]
    omega
theorem good_rows : ∀ {m : Nat} {b : DT} {p : List Nat} {lp : Bool}, goodR m b = true → ∀ r ∈ rowsW m b p lp, stmtB r.2.1 = true
  | 0, _, _, _, h => by cases h
  | m + 1, b, p, lp, h => by
    have bl : ∀ (here : List Nat) (lp : Bool) (cs : List DT) (j : Nat), (∀ c ∈ cs, goodR m c = true) → ∀ r ∈ blocksW (rowsW m) here lp cs j, stmtB r.2.1 = true := by
      intro here lp cs
      induction cs with
      | nil => exact fun j _ r hr => (List.not_mem_nil hr).elim
      | cons c cs ih =>
        intro j hc r hr
        rcases List.mem_append.mp hr with hr | hr
        · exact good_rows (hc c List.mem_cons_self) r hr
        · exact ih (j + 1) (fun x hx => hc x (List.mem_cons_of_mem _ hx)) r hr
    have it : ∀ (ds : List DT) (i : Nat), (∀ d ∈ ds, stmtB d = true ∧ ∀ c ∈ blocksB d, goodR m c = true) → ∀ r ∈ itemsW (rowsW m) p lp ds i, stmtB r.2.1 = true := by
      intro ds
      induction ds with
      | nil => exact fun i _ r hr => (List.not_mem_nil hr).elim
      | cons d ds ih =>
        intro i hd r hr
        obtain ⟨h1, h2⟩ := hd d List.mem_cons_self
        rcases List.mem_cons.mp hr with rfl | hr
        · exact h1
        rcases List.mem_append.mp hr with hr | hr
        · unfold inW at hr
          rw [if_pos h1] at hr
          exact bl _ _ _ 0 h2 r hr
        · exact ih (i + 1) (fun x hx => hd x (List.mem_cons_of_mem _ hx)) r hr
    exact it _ 0 (good_parts h).2
/-- what is told: four new lists in a new one -/
structure TolA (H0 H : Hp) (p N P Pa Li : Addr) (rs : List WRow) (ns ps : List Str) (bs ls : List Addr) : Prop where
  s : Same H0 H
  ep : H p = some (.lst [.ref N, .ref P, .ref Pa, .ref Li])
  eN : H N = some (.lst (ns.map V.str))
  eP : H P = some (.lst (ps.map V.str))
  eA : H Pa = some (.lst (bs.map V.ref))
  eL : H Li = some (.lst (ls.map V.ref))
  new : ∀ a ∈ [N, P, Pa, Li, p], H0 a = none
  ne : [N, P, Pa, Li, p].Nodup
  n : AscOf (namesW rs) ns
  q : AscOf (portsW rs) ps
  b : PathsW H bs (rs.map (·.1))
  l : PathsW H ls ((rs.filter openW).map (·.1))
def spDue5 (K : PySem.W.Frag) : Sp := fun vs H Q _ => ∃ v b, vs = [v] ∧ Rp K H v b ∧ goodR 12 b = true ∧ cntW 12 b ≤ 300 ∧
  ∀ p N P Pa Li ns ps bs ls H', TolA H H' p N P Pa Li (rowsW 12 b [] false) ns ps bs ls → Q (.ref p) H'
section
variable {P : Program} {w : World} {K : PySem.W.Frag} {mg : Str → Option Value} {base : Heap}
abbrev nDu5 : List Str := ["_law_block_here", "_law_names", "_law_ports_here", "_law_paths", "_law_lines", "_law_path", "_law_statement_here"]
theorem scDue5 : FnScope nDu5 ["_law_block_here"] (defScope lDue) := ⟨rfl, rfl, rfl, by decide +kernel, rfl, by decide +kernel, by decide +kernel⟩
theorem ok_due5 {f fL fO fP fN : Addr} {fd fdL fdO fdP fdN : FuncData} (F : Fun K "_law_due" "_law_due" lDue f fd)
    (GL : FnOk P w K mg base CX0 2 fL fdL ["_law_block_here"] (spList5 K)) (kL : PySem.W.keepIn K (.ref fL) = true) (bL : Binds K fdL ["_law_block_here"] []) (mL : mg "_law_listed" = some (.ref fL))
    (GO : FnOk P w K mg base CX0 7 fO fdO ["_law_statement_here"] (spStrs K namesB)) (kO : PySem.W.keepIn K (.ref fO) = true) (bO : Binds K fdO ["_law_statement_here"] []) (mO : mg "_law_own_names" = some (.ref fO))
    (GP : FnOk P w K mg base CX0 1 fP fdP ["_law_statement_here"] (spStrs K portsB)) (kP : PySem.W.keepIn K (.ref fP) = true) (bP : Binds K fdP ["_law_statement_here"] []) (mP : mg "_law_ports" = some (.ref fP))
    (GN : FnOk P w K mg base CX0 1 fN fdN ["_law_items"] (spOnce K)) (kN : PySem.W.keepIn K (.ref fN) = true) (bN : Binds K fdN ["_law_items"] []) (mN : mg "_law_once" = some (.ref fN)) : FnOk P w K mg base CX0 8 f fd ["_law_block_here"] (spDue5 K) := by
  refine F.ok scDue5 (fun vs H Q E h => ?_) (fun cdv A outer s H vs Q E hr h => ?_)
  · obtain ⟨v, b, rfl, _⟩ := h
    rfl
  · obtain ⟨v, b, rfl, rb, hg, hc, k⟩ := h
    have hr1 : Room 1 _ := hr.mono (by decide)
    have hr2 : Room 2 _ := hr.mono (by decide)
    refine ⟨_, (pss_cons (ps_set (i := 1) scDue5.nd rfl (Or.inl rfl) (pe_lst pa_nil))
      (pss_cons (ps_set (i := 2) scDue5.nd rfl (Or.inl rfl) (pe_lst pa_nil))
      (pss_cons (ps_set (i := 3) scDue5.nd rfl (Or.inl rfl) (pe_lst pa_nil))
      (pss_cons (ps_set (i := 4) scDue5.nd rfl (Or.inl rfl) (pe_lst pa_nil))
      (pss_cons (ps_for PassesOwn.never rfl (pi_list (pe_call GL hr2 (by rfl) mL kL bL .nil pass0 (pa_cons (pv 0) pa_nil))) (pg_tup rfl (pgs_cons (pg_name (i := 5) scDue5.nd rfl (Or.inl rfl)) (pgs_cons (pg_name (i := 6) scDue5.nd rfl (Or.inl rfl)) pgs_nil)))
        (pss_cons (ps_expr (pe_bm PySem.F.plainAttrs_list PySem.F.slot_list_append PySem.F.type_list_append mt_append (pv 3) (pa_cons (pv 5) pa_nil)))
        (pss_cons (ps_set (i := 1) scDue5.nd rfl (Or.inl rfl) (pe_op op_cat (pv 1) (pe_call GO hr (by rfl) mO kO bO .nil pass0 (pa_cons (pv 6) pa_nil))))
        (pss_cons (ps_set (i := 2) scDue5.nd rfl (Or.inl rfl) (pe_op op_cat (pv 2) (pe_call GP hr1 (by rfl) mP kP bP .nil pass0 (pa_cons (pv 6) pa_nil))))
        (pss_one (ps_if (pt_cmpR op_eq (pe_ix ix_tup (pv 6) pe_int (fun _ _ => rfl)) pe_str (nomark _))
          (pss_one (ps_expr (pe_bm PySem.F.plainAttrs_list PySem.F.slot_list_append PySem.F.type_list_append mt_append (pv 4) (pa_cons (pv 5) pa_nil)))) pss_nil))))))
      (pss_one (ps_ret (pe_lst (pa_cons (pe_call GN hr1 (by rfl) mN kN bN .nil pass0 (pa_cons (pv 1) pa_nil)) (pa_cons (pe_call GN hr1 (by rfl) mN kN bN .nil pass0 (pa_cons (pv 2) pa_nil)) (pa_cons (pv 3) (pa_cons (pv 4) pa_nil)))))))))))), ?_⟩
    have few : (rowsW 12 b [] false).length ≤ 300 := by rw [rows_len]; exact hc
    have hst : ∀ r ∈ rowsW 12 b [] false, stmtB r.2.1 = true := good_rows hg
    obtain ⟨rs, ers⟩ : ∃ rs, rs = rowsW 12 b [] false := ⟨_, rfl⟩
    rw [← ers] at few hst k
    have fn : ∀ i, (namesW (rs.take i)).length ≤ 6000 := fun i => by
      have := flat_len (g := namesB) (rs.take i) fun r hr => namesB_len (hst r (List.mem_of_mem_take hr))
      rw [List.length_take] at this
      have : (namesW (rs.take i)).length ≤ min i rs.length * 20 := this
      omega
    have fp : ∀ i, (portsW (rs.take i)).length ≤ 6000 := fun i => by
      have := flat_len (g := portsB) (rs.take i) fun r hr => portsB_len (hst r (List.mem_of_mem_take hr))
      rw [List.length_take] at this
      have : (portsW (rs.take i)).length ≤ min i rs.length * 20 := this
      omega
    have emp : ([] : List V).length ≤ sizeLine := by show 0 ≤ sizeLine; decide
    refine ⟨emp, fun N0 nN => ?_⟩
    have s1 := Same.new (o := .lst []) nN
    have hN : upd H N0 (.lst []) N0 = some (.lst []) := upd_same
    generalize upd H N0 (.lst []) = H1 at s1 hN ⊢
    refine ⟨emp, fun P0 nP => ?_⟩
    have s2 := s1.trans (Same.new (o := .lst []) nP)
    have hP : upd H1 P0 (.lst []) P0 = some (.lst []) := upd_same
    have hN := (Same.new (o := .lst []) nP) _ _ hN
    generalize upd H1 P0 (.lst []) = H2 at s2 hN hP ⊢
    refine ⟨emp, fun A0 nA => ?_⟩
    have s3 := s2.trans (Same.new (o := .lst []) nA)
    have nNA : N0 ≠ A0 := fun z => by
      rw [z, nA] at hN
      cases hN
    have nPA : P0 ≠ A0 := fun z => by
      rw [z, nA] at hP
      cases hP
    have hA : upd H2 A0 (.lst []) A0 = some (.lst []) := upd_same
    have hN := (Same.new (o := .lst []) nA) _ _ hN
    have hP := (Same.new (o := .lst []) nA) _ _ hP
    have nA0 : H A0 = none := s2.free nA
    generalize upd H2 A0 (.lst []) = H3 at s3 hN hP hA ⊢
    refine ⟨emp, fun L0 nL => ?_⟩
    have s4 := s3.trans (Same.new (o := .lst []) nL)
    have nNL : N0 ≠ L0 := fun z => by
      rw [z, nL] at hN
      cases hN
    have nPL : P0 ≠ L0 := fun z => by
      rw [z, nL] at hP
      cases hP
    have hL : upd H3 L0 (.lst []) L0 = some (.lst []) := upd_same
    have hN := (Same.new (o := .lst []) nL) _ _ hN
    have hP := (Same.new (o := .lst []) nL) _ _ hP
    have nAL : A0 ≠ L0 := fun z => by
      rw [z, nL] at hA
      cases hA
    have hA := (Same.new (o := .lst []) nL) _ _ hA
    have nL0 : H L0 = none := s3.free nL
    generalize upd H3 L0 (.lst []) = H4 at s4 hN hP hA hL ⊢
    refine ⟨_, rfl, v, b, false, rfl, rb.keep s4, hg, hc, fun Lr xs H5 s5 nLr hLr ra => ?_⟩
    rw [← ers] at ra
    have lx := Paired.length ra
    have nRA : Lr ≠ A0 := fun z => by
      rw [z, hA] at nLr
      cases nLr
    have nRL : Lr ≠ L0 := fun z => by
      rw [z, hL] at nLr
      cases nLr
    refine ⟨Lr, rfl, ⟨_, SqL.of hLr⟩, ?_⟩
    have hN := s5 _ _ hN
    have hP := s5 _ _ hP
    have hA := s5 _ _ hA
    have hL := s5 _ _ hL
    have s05 := s4.trans s5
    refine for_it (walk_list (K := K) (a := Lr) (xs := xs)) (fun i σ H' => ∃ (N P : Addr) (bs ls : List Addr) (x5 x6 : Option V), σ = [some v, some (.ref N), some (.ref P), some (.ref A0), some (.ref L0), x5, x6] ∧ Same H H' ∧ H' Lr = some (.lst xs) ∧ RowsA K H' xs rs ∧
        H' N = some (.lst ((namesW (rs.take i)).map V.str)) ∧ H' P = some (.lst ((portsW (rs.take i)).map V.str)) ∧ H' A0 = some (.lst (bs.map V.ref)) ∧ PathsW H' bs ((rs.take i).map (·.1)) ∧ H' L0 = some (.lst (ls.map V.ref)) ∧ PathsW H' ls (((rs.take i).filter openW).map (·.1)) ∧ N ≠ A0 ∧ N ≠ L0 ∧ P ≠ A0 ∧ P ≠ L0)
      ⟨N0, P0, [], [], _, _, rfl, s05, hLr, ra, hN, hP, hA, .nil, hL, .nil, nNA, nNL, nPA, nPL⟩ (fun i σ H' _ ⟨_, _, _, _, _, _, _, _, h, _⟩ => SqL.of h) ?_ ?_
    · rintro i x σ Ha Hb hi ⟨N, P, bs, ls, x5, x6, rfl, sa, hLr, ra, hN, hP, hA, pA, hL, pL, n1, n2, n3, n4⟩ ⟨e, ex⟩
      subst e
      have li : i < rs.length := by omega
      have er : rs[i]? = some rs[i] := List.getElem?_eq_getElem li
      obtain ⟨x', ex', R, T, vS, rfl, hR, hT, rvS⟩ := RowsA.at_ ra er
      obtain rfl := Option.some.inj (ex.symm.trans ex')
      have hs := hst _ (List.getElem_mem li)
      have tk1 : (rs.take (i + 1)).map (·.1) = (rs.take i).map (·.1) ++ [(rs[i]).1] := by rw [List.take_add_one, er, List.map_append]; rfl
      have tk2 : ((rs.take (i + 1)).filter openW).map (·.1) = ((rs.take i).filter openW).map (·.1) ++ (([rs[i]]).filter openW).map (·.1) := by rw [List.take_add_one, er, List.filter_append, List.map_append]; rfl
      have tkn := namesW_succ er
      have tkp := portsW_succ er
      have fn1 := fn (i + 1)
      have fp1 := fp (i + 1)
      have la := Paired.length pA
      have ll := Paired.length pL
      rw [List.length_map, List.length_take] at la
      have ll : ls.length ≤ i := by
        rw [ll, List.length_map]
        refine Nat.le_trans (List.length_filter_le _ _) ?_
        rw [List.length_take]
        omega
      rw [tkn] at fn1
      rw [tkp] at fp1
      rw [List.length_append] at fn1 fp1
      generalize rs[i] = rr at hT rvS hs tk1 tk2 tkn tkp fn1 fp1
      obtain ⟨wr, dr, lpr⟩ := rr
      have hs : stmtB dr = true := hs
      refine ⟨R, [.ref T, vS], rfl, SqT.of hR, rfl, .ref T, [vS], rfl, vS, [], rfl, rfl, ?_⟩
      refine ⟨_, rfl, .inl ⟨rfl, _, SqL.of hA⟩, _, rfl, A0, _, _, rfl, rfl, hA, small1000 (by rw [List.length_map]; omega), ?_⟩
      have eA : upd Hb A0 (.lst (bs.map V.ref ++ [.ref T])) A0 = some (.lst ((bs ++ [T]).map V.ref)) := by rw [upd_same, List.map_append]; rfl
      have sb : Same H (upd Hb A0 (.lst (bs.map V.ref ++ [.ref T]))) := fun b o e => by
        rw [upd_ne (ne_of_none e nA0)]
        exact sa _ _ e
      have hT2 : upd Hb A0 (.lst (bs.map V.ref ++ [.ref T])) T = some (.tup (pathV wr)) := by
        rw [upd_ne (fun z => by rw [z, hA] at hT; cases hT)]
        exact hT
      have pA2 : PathsW (upd Hb A0 (.lst (bs.map V.ref ++ [.ref T]))) (bs ++ [T]) ((rs.take (i + 1)).map (·.1)) := by
        rw [tk1]
        exact PathsW.append (PathsW.updL hA pA) (.cons hT2 .nil)
      have pL2 := PathsW.updL hA (z := .lst (bs.map V.ref ++ [.ref T])) pL
      have ra2 := RowsA.updL hA (ys := bs.map V.ref ++ [.ref T]) ra
      have rv2 : Rp K (upd Hb A0 (.lst (bs.map V.ref ++ [.ref T]))) vS dr := rvS.updL hA
      have hLr2 : upd Hb A0 (.lst (bs.map V.ref ++ [.ref T])) Lr = some (.lst xs) := by rw [upd_ne nRA]; exact hLr
      have hN2 : upd Hb A0 (.lst (bs.map V.ref ++ [.ref T])) N = some (.lst ((namesW (rs.take i)).map V.str)) := by rw [upd_ne n1]; exact hN
      have hP2 : upd Hb A0 (.lst (bs.map V.ref ++ [.ref T])) P = some (.lst ((portsW (rs.take i)).map V.str)) := by rw [upd_ne n3]; exact hP
      have hL2 : upd Hb A0 (.lst (bs.map V.ref ++ [.ref T])) L0 = some (.lst (ls.map V.ref)) := by rw [upd_ne (Ne.symm nAL)]; exact hL
      generalize upd Hb A0 (.lst (bs.map V.ref ++ [.ref T])) = Hc at eA sb hT2 pA2 pL2 ra2 rv2 hLr2 hN2 hP2 hL2 ⊢
      clear hLr ra hN hP hA pA hL pL hT hR rvS sa
      refine ⟨_, rfl, _, rfl, vS, dr, rfl, rv2, hs, fun q1 Hd sd nq1 hq1 => ⟨N, q1, _, _, rfl, rfl, sd _ _ hN2, hq1, ?_, fun N2 nN2 => ?_⟩⟩
      · rw [List.length_map, List.length_map]
        exact Nat.le_trans fn1 (by decide)
      have se := sd.trans (Same.new (o := .lst ((namesW (rs.take i)).map V.str ++ (namesB dr).map V.str)) nN2)
      have hNe : upd Hd N2 (.lst ((namesW (rs.take i)).map V.str ++ (namesB dr).map V.str)) N2 = some (.lst ((namesW (rs.take (i + 1))).map V.str)) := by rw [upd_same, tkn, List.map_append]
      have m1 : N2 ≠ A0 := fun z => by
        rw [z, sd _ _ eA] at nN2
        cases nN2
      have m2 : N2 ≠ L0 := fun z => by
        rw [z, sd _ _ hL2] at nN2
        cases nN2
      generalize upd Hd N2 (.lst ((namesW (rs.take i)).map V.str ++ (namesB dr).map V.str)) = He at se hNe ⊢
      refine ⟨_, rfl, _, rfl, vS, dr, rfl, rv2.keep se, hs, fun q2 Hf sf nq2 hq2 => ⟨P, q2, _, _, rfl, rfl, sf _ _ (se _ _ hP2), hq2, ?_, fun P2 nP2 => ?_⟩⟩
      · rw [List.length_map, List.length_map]
        exact Nat.le_trans fp1 (by decide)
      have sg := se.trans (sf.trans (Same.new (o := .lst ((portsW (rs.take i)).map V.str ++ (portsB dr).map V.str)) nP2))
      have hNg := (sf.trans (Same.new (o := .lst ((portsW (rs.take i)).map V.str ++ (portsB dr).map V.str)) nP2)) _ _ hNe
      have hPg : upd Hf P2 (.lst ((portsW (rs.take i)).map V.str ++ (portsB dr).map V.str)) P2 = some (.lst ((portsW (rs.take (i + 1))).map V.str)) := by rw [upd_same, tkp, List.map_append]
      have m3 : P2 ≠ A0 := fun z => by
        rw [z, sf _ _ (se _ _ eA)] at nP2
        cases nP2
      have m4 : P2 ≠ L0 := fun z => by
        rw [z, sf _ _ (se _ _ hL2)] at nP2
        cases nP2
      generalize upd Hf P2 (.lst ((portsW (rs.take i)).map V.str ++ (portsB dr).map V.str)) = Hg at sg hNg hPg ⊢
      have sb := sb.trans sg
      have eA := sg _ _ eA
      have pA2 := PathsW.keep sg pA2
      have pL2 := PathsW.keep sg pL2
      have ra2 := RowsA.keep sg ra2
      have rv2 := rv2.keep sg
      have hLr2 := sg _ _ hLr2
      have hL2 := sg _ _ hL2
      have hT2 := sg _ _ hT2
      obtain ⟨g, lr, _, _, el⟩ := stmt_inv hs
      rw [el] at rv2
      obtain ⟨pS, xS, rfl, hS, rS⟩ := rv2.tup_inv
      obtain ⟨v0, x0, r0⟩ := rS.get (i := 0) rfl
      cases r0
      refine ⟨_, rfl, pS, _, _, _, rfl, rfl, SqT.of hS, at_of (j := 0) rfl x0, rfl, _, rfl, ?_⟩
      by_cases c : headB dr = "open"
      · refine ite2 (fun _ => ?_) (fun z => absurd (decide_eq_true (by rw [c])) z)
        have eo : (([(wr, dr, lpr)] : List WRow).filter openW).map (·.1) = [wr] := by
          rw [List.filter_cons_of_pos (by show decide (headB dr = "open") = true; exact decide_eq_true c)]
          rfl
        rw [eo] at tk2
        refine ⟨_, rfl, .inl ⟨rfl, _, SqL.of hL2⟩, _, rfl, L0, _, _, rfl, rfl, hL2, small1000 (by rw [List.length_map]; omega), ?_⟩
        refine ⟨N2, P2, bs ++ [T], ls ++ [T], _, _, rfl, fun b o e => ?_, ?_, RowsA.updL hL2 ra2, ?_, ?_, ?_, PathsW.updL hL2 pA2, ?_, ?_, m1, m2, m3, m4⟩
        · rw [upd_ne (ne_of_none e nL0)]
          exact sb _ _ e
        · rw [upd_ne nRL]
          exact hLr2
        · rw [upd_ne m2]
          exact hNg
        · rw [upd_ne m4]
          exact hPg
        · rw [upd_ne nAL]
          exact eA
        · rw [upd_same, List.map_append]
          rfl
        · rw [tk2]
          exact PathsW.append (PathsW.updL hL2 pL2) (.cons (show upd Hg L0 _ T = _ by rw [upd_ne (fun z => by rw [z, hL2] at hT2; cases hT2)]; exact hT2) .nil)
      · refine ite2 (fun z => absurd (V.str.inj (of_decide_eq_true z)) c) fun _ => ?_
        have eo : (([(wr, dr, lpr)] : List WRow).filter openW).map (·.1) = [] := by
          rw [List.filter_cons_of_neg (by show ¬ decide (headB dr = "open") = true; rw [decide_eq_false c]; decide)]
          rfl
        rw [eo, List.append_nil] at tk2
        exact ⟨N2, P2, bs ++ [T], ls, _, _, rfl, sb, hLr2, ra2, hNg, hPg, eA, pA2, hL2, by rw [tk2]; exact pL2, m1, m2, m3, m4⟩
    · rintro σ Ha ⟨N, P, bs, ls, x5, x6, rfl, sa, _, _, hN, hP, hA, pA, hL, pL, _⟩
      rw [lx, List.take_length] at hN hP pA pL
      have fN := fn rs.length
      have fP := fp rs.length
      rw [List.take_length] at fN fP
      refine ⟨_, rfl, N, _, rfl, hN, by omega, fun ns N3 Hb sb nN3 hN3 an => ?_⟩
      refine ⟨_, rfl, P, _, rfl, sb _ _ hP, by omega, fun ps P3 Hc sc nP3 hP3 ap => ?_⟩
      refine ⟨_, rfl, _, rfl, by show 4 ≤ sizeLine; decide, fun p np => ?_⟩
      have sn := Same.new (o := .lst [.ref N3, .ref P3, .ref A0, .ref L0]) np
      have sbc := sb.trans (sc.trans sn)
      have eN := (sc.trans sn) _ _ hN3
      have eP := sn _ _ hP3
      have eA := sbc _ _ hA
      have eL := sbc _ _ hL
      have ne : ∀ {a b : Addr} {o : HO} {G : Hp}, G a = some o → G b = none → a ≠ b := fun {a b o G} h1 h2 z => by
        rw [z, h2] at h1
        cases h1
      refine k p N3 P3 A0 L0 ns ps bs ls _ ⟨sa.trans sbc, upd_same, eN, eP, eA, eL, ?_, ?_, an, ap, PathsW.keep sbc pA, PathsW.keep sbc pL⟩
      · intro x hx
        simp only [List.mem_cons, List.not_mem_nil, or_false] at hx
        rcases hx with rfl | rfl | rfl | rfl | rfl
        · exact sa.free nN3
        · exact (sa.trans sb).free nP3
        · exact nA0
        · exact nL0
        · exact (sa.trans (sb.trans sc)).free np
      · simp only [List.nodup_cons, List.mem_cons, List.not_mem_nil, or_false, not_or, not_false_eq_true, List.nodup_nil, and_true]
        exact ⟨⟨ne hN3 nP3, Ne.symm (ne hA nN3), Ne.symm (ne hL nN3), ne (sc _ _ hN3) np⟩, ⟨Ne.symm (ne (sb _ _ hA) nP3), Ne.symm (ne (sb _ _ hL) nP3), ne hP3 np⟩, ⟨nAL, ne ((sb.trans sc) _ _ hA) np⟩, ne ((sb.trans sc) _ _ hL) np⟩
end
end Oh
namespace Oh
open PySem PySem.Spec PyProof.Rows L2 PpSet
/-! ### what is drawn is let -/
structure RowG9 (S1 S2 : List Str) (r : WRow) : Prop where
  st : stmtB r.2.1 = true
  np : NP S1 S2 r.2.1
  ok : wrongW r = false
  ne : r.1 ≠ []
theorem gen_rowsG {S1 S2 : List Str} : ∀ {m : Nat} {b : DT} {path : List Nat} {lp : Bool}, m ≤ 12 → genR S1 S2 m lp b → ∀ r ∈ rowsW m b path lp, RowG9 S1 S2 r
  | 0, _, _, _, _, h, _, _ => h.elim
  | m + 1, b, path, lp, hm, h, r, hr => by
    have kb : ∀ (cs : List DT) (here : List Nat) (lp : Bool) (j : Nat), (∀ c ∈ cs, genR S1 S2 m lp c) → r ∈ blocksW (rowsW m) here lp cs j → RowG9 S1 S2 r := fun cs => by
      induction cs with
      | nil => intro _ _ _ _ hr; cases hr
      | cons c cs ih =>
        intro here lp j hc hr
        unfold blocksW at hr
        rcases List.mem_append.mp hr with hr | hr
        · exact gen_rowsG (by omega) (hc c List.mem_cons_self) r hr
        · exact ih here lp (j + 1) (fun x hx => hc x (List.mem_cons_of_mem _ hx)) hr
    have ki : ∀ (ds : List DT) (i : Nat), (∀ d ∈ ds, ItemG S1 S2 m lp d) → r ∈ itemsW (rowsW m) path lp ds i → RowG9 S1 S2 r := fun ds => by
      induction ds with
      | nil => intro _ _ hr; cases hr
      | cons d ds ih =>
        intro i hd hr
        have h1 := hd d List.mem_cons_self
        unfold itemsW at hr
        rcases List.mem_cons.mp hr with rfl | hr
        · refine ⟨h1.1, h1.2.1, ?_, by simp⟩
          show (!stmtB d || wrongS lp d) = false
          rw [h1.1]
          unfold wrongS
          by_cases c : headB d = "leave"
          · rw [if_pos c, h1.2.2.1 c]
            rfl
          · rw [if_neg c]
            by_cases c2 : headB d = "repeat"
            · have z := gen_dep (h1.2.2.2.2 (argB d 1) (by rw [blocks_head c2]; exact List.mem_cons_self))
              rw [quiet_up (by omega) z, h1.2.2.2.1 c2]
              simp
            · rw [decide_eq_false c2]
              rfl
        rcases List.mem_append.mp hr with hr | hr
        · unfold inW at hr
          rw [if_pos h1.1] at hr
          exact kb _ _ _ _ h1.2.2.2.2 hr
        · exact ih (i + 1) (fun x hx => hd x (List.mem_cons_of_mem _ hx)) hr
    exact ki (listB b) 0 h.2 hr
theorem rows_short : ∀ {m : Nat} {b : DT} {path : List Nat} {lp : Bool} {r : WRow}, r ∈ rowsW m b path lp → r.1.length ≤ path.length + 2 * m
  | 0, _, _, _, _, h => by cases h
  | m + 1, b, path, lp, r, h => by
    have kb : ∀ (here : List Nat) (lp : Bool) (cs : List DT) (j : Nat), here.length ≤ path.length + 1 → r ∈ blocksW (rowsW m) here lp cs j → r.1.length ≤ path.length + 2 * (m + 1) := by
      intro here lp cs
      induction cs with
      | nil => intro j _ h; cases h
      | cons c cs ih =>
        intro j hl h
        unfold blocksW at h
        rcases List.mem_append.mp h with h | h
        · have := rows_short h
          rw [List.length_append, List.length_singleton] at this
          omega
        · exact ih (j + 1) hl h
    have ki : ∀ (ds : List DT) (i : Nat), r ∈ itemsW (rowsW m) path lp ds i → r.1.length ≤ path.length + 2 * (m + 1) := by
      intro ds
      induction ds with
      | nil => intro i h; cases h
      | cons d ds ih =>
        intro i h
        unfold itemsW at h
        rcases List.mem_cons.mp h with rfl | h
        · show (path ++ [i]).length ≤ _
          rw [List.length_append, List.length_singleton]
          omega
        rcases List.mem_append.mp h with h | h
        · unfold inW at h
          split at h
          · exact kb _ _ _ _ (by rw [List.length_append, List.length_singleton]; omega) h
          · cases h
        · exact ih (i + 1) h
    exact ki (listB b) 0 h
theorem gen_allR {S1 S2 : List Str} : ∀ {m : Nat} {lp : Bool} {b : DT}, genR S1 S2 m lp b → allR (NP S1 S2) m b
  | 0, _, _, _ => trivial
  | m + 1, lp, b, h => fun d hd => ⟨(h.2 d hd).2.1, fun c hc => gen_allR ((h.2 d hd).2.2.2.2 c hc)⟩
/-- a block that a routine may have -/
structure FitG (S1 S2 : List Str) (b : DT) : Prop where
  gen : genR S1 S2 12 false b
  g : goodR 12 b = true
  due : dueB b = none
  n1 : (allS (allT namesB (rowsD b))).2 ≤ S1.length
  n2 : (allS (allT portsB (rowsD b))).2 ≤ S2.length
theorem gen_fit {S1 S2 : List Str} {b : DT} (h : genR S1 S2 7 false b) (hc : cntW 12 b ≤ 6000) : FitG S1 S2 b := by
  have g := gen_up (k := 12) (by decide) h
  have gg := gen_good g
  have f := first_rows (m := 12) (f := 12) (path := []) (lp := false) (by decide) (by decide) (gen_dep g)
  have e : (rowsW 12 b [] false).find? wrongW = none := List.find?_eq_none.mpr fun r hr => by
    rw [(gen_rowsG (by decide) g r hr).ok]
    decide
  rw [e] at f
  refine ⟨g, gg, due_let (gen_block g) f ?_, np_names (gen_allR g), np_ports (gen_allR g)⟩
  rw [count_good gg]
  exact hc
theorem rowsD_eq {b : DT} (h : goodR 12 b = true) (lp : Bool) : (rowsD b).map pr2 = (rowsW 12 b [] lp).map pw2 := lay_rows 12 b [] none none lp h
theorem names_eq {b : DT} {rs : List WRow} (h : (rowsD b).map pr2 = rs.map pw2) : allT namesB (rowsD b) = namesW rs := by
  unfold namesW
  show ((rowsD b).map fun r => namesB r.2.1).flatten = _
  have e := congrArg (List.map fun q : List Nat × DT => namesB q.2) h
  rw [List.map_map, List.map_map] at e
  exact congrArg List.flatten e
theorem rows_pos {m : Nat} {l : List DT} {p : List Nat} {lp : Bool} (h : 1 ≤ l.length) : 0 < (rowsW (m + 1) (.tup l) p lp).length := by
  cases l with
  | nil => exact absurd h (by decide)
  | cons d ds => exact Nat.succ_pos _
/-! ### drawing keeps -/
theorem PathOr.drw {H H' : Hp} {a c : Addr} (S : Src H a c) (x : Drw a c H H') {v : V} {o : OPath} (h : PathOr H v o) : PathOr H' v o := by
  cases o with
  | none => exact h
  | some w =>
    obtain ⟨p, e, hp⟩ := h
    exact ⟨p, e, x.at S hp (fun _ => nofun)⟩
/-- a routine whose lists are not the source's -/
structure RoutX (K : PySem.W.Frag) (H : Hp) (hR r : Addr) (v : V) (d : DT) (a c : Addr) : Prop where
  R : RoutD K H hR r v d
  ne : ∃ (dx : Addr) (v : V) (D1 D2 N1 N2 : Addr), H r = some (.ins hR dx (fsE v D1 D2 N1 N2)) ∧ N1 ≠ a ∧ N1 ≠ c ∧ N2 ≠ a ∧ N2 ≠ c
theorem RoutX.keep {K : PySem.W.Frag} {H H' : Hp} {hR r a c : Addr} {v : V} {d : DT} (s : Same H H') (R : RoutX K H hR r v d a c) : RoutX K H' hR r v d a c := by
  obtain ⟨dx, v', D1, D2, N1, N2, e, n⟩ := R.ne
  exact ⟨R.R.keep s, dx, v', D1, D2, N1, N2, s _ _ e, n⟩
theorem RoutX.drw {K : PySem.W.Frag} {H H' : Hp} {hR r a c : Addr} {v : V} {d : DT} (S : Src H a c) (x : Drw a c H H') (R : RoutX K H hR r v d a c) : RoutX K H' hR r v d a c := by
  obtain ⟨dx, v', D1, D2, N1, N2, e, n1, n2, n3, n4⟩ := R.ne
  obtain ⟨dx', E1, E2, M1, M2, k1, k2, e', d1, t1, d2, t2, a1, a2⟩ := R.R.ex
  have h := e.symm.trans e'
  injection h with h
  injection h with _ h1 h2
  subst h1
  have h2 := List.cons.inj h2
  have h3 := List.cons.inj h2.2
  have h4 := List.cons.inj h3.2
  have h5 := List.cons.inj h4.2
  have h6 := List.cons.inj h5.2
  have q1 : N1 = M1 := V.ref.inj (Prod.mk.inj h5.1).2
  have q2 : N2 = M2 := V.ref.inj (Prod.mk.inj h6.1).2
  subst q1
  subst q2
  have asc : ∀ {N : Addr} {l : List Str}, N ≠ a → N ≠ c → AscAt H N l → AscAt H' N l := fun na nc ⟨ys, z1, z2⟩ => ⟨ys, x.k _ _ z1 na nc, z2⟩
  exact ⟨⟨⟨dx, E1, E2, N1, N2, k1, k2, x.at S e' (fun _ => nofun), x.at S d1 (fun _ => nofun), t1.to fun _ _ h => Rp.drw S x h, x.at S d2 (fun _ => nofun), t2.to fun _ _ h => PathOr.drw S x h, asc n1 n2 a1, asc n3 n4 a2⟩, Rp.drw S x R.R.rp⟩,
    dx, v', D1, D2, N1, N2, x.at S e (fun _ => nofun), n1, n2, n3, n4⟩
theorem NewR.x {K : PySem.W.Frag} {H H' : Hp} {hR r a c : Addr} {v : V} {d : DT} (n : NewR H H' hR r) (R : RoutD K H' hR r v d) (ha : ∃ o, H a = some o) (hc : ∃ o, H c = some o) : RoutX K H' hR r v d a c := by
  obtain ⟨dx, v', D1, D2, N1, N2, e, n⟩ := n
  obtain ⟨oa, ha⟩ := ha
  obtain ⟨oc, hc⟩ := hc
  exact ⟨R, dx, v', D1, D2, N1, N2, e, (n a oa ha).1.symm, (n c oc hc).1.symm, (n a oa ha).2.symm, (n c oc hc).2.symm⟩
end Oh
namespace Oh
open PySem PySem.Spec PyProof.Rows L2 PpSet
abbrev sEntered : Stmt := top 9999
theorem cat_path2 {K : PySem.W.Frag} {H : Hp} {p q : Addr} {path : List Nat} {i j : Nat} {Q : VK} (hp : H p = some (.tup (pathV path))) (hq : H q = some (.tup [.int (i : Int), .int (j : Int)])) (small : path.length ≤ 1000) (k : ∀ r H', Same H H' → H' r = some (.tup (pathV (path ++ [i, j]))) → Q (.ref r) H') :
    rCatA K (.ref p) (.ref q) H Q := by
  have e : pathV (path ++ [i, j]) = pathV path ++ [V.int (i : Int), V.int (j : Int)] := by show List.map _ _ = _; rw [List.map_append]; rfl
  refine ⟨p, q, pathV path, _, rfl, rfl, SqT.of hp, SqT.of hq, ?_, fun z => ?_, fun _ z => absurd z (by simp), fun _ _ r nr => ?_⟩
  · show (List.map _ path).length + 2 ≤ sizeLine
    rw [List.length_map]
    exact Nat.le_trans (show path.length + 2 ≤ 1002 by omega) (by decide)
  · have z' : path = [] := by
      cases path with
      | nil => rfl
      | cons a b => cases z
    subst z'
    exact k q H (Same.refl H) hq
  · refine k r _ (Same.new nr) ?_
    rw [upd_same, e]
def enterB (q : LRow) (n : Nat) : OPath := if (listB ((blocksB q.2.1).getD n .non)).length = 0 then q.2.2 else some (q.1 ++ [n, 0])
def spEnter (K : PySem.W.Frag) (hR : Addr) : Sp := fun vs H Q _ => ∃ r v d p q, ∃ n : Nat, vs = [.ref r, .ref p, .int (n : Int)] ∧ RoutD K H hR r v d ∧ goodB 11 d = true ∧ q ∈ rowsD d ∧ H p = some (.tup (pathV q.1)) ∧ n < (blocksB q.2.1).length ∧ ∀ u H', Same H H' → PathOr H' u (enterB q n) → Q u H'
section
variable {P : Program} {w : World} {K : PySem.W.Frag} {mg : Str → Option Value} {base : Heap} {hR hNP : Addr}
abbrev nEn : List Str := ["routine", "path", "number"]
theorem pathD_inj {a b : List Nat} (h : pathD a = pathD b) : a = b := by
  have h : a.map (fun (n : Nat) => DT.int (n : Int)) = b.map (fun (n : Nat) => DT.int (n : Int)) := DT.tup.inj h
  refine keyP_inj ?_
  have h2 := congrArg (List.map fun x : DT => match x with | .int i => (.inl i : L2.Key) | _ => .inl 0) h
  rw [List.map_map, List.map_map] at h2
  exact h2
end
end Oh
namespace Oh
open PySem PySem.Spec PyProof.Rows L2 PpSet
/-- two values of one plain tree are alike -/
def spAlike (K : PySem.W.Frag) (n : Nat) : Sp := fun vs H Q _ => ∃ x y d, vs = [x, y] ∧ Rp K H x d ∧ Rp K H y d ∧ plainB n d = true ∧ ∀ H', Same H H' → Q (.bl true) H'
def spAlikeP (K : PySem.W.Frag) : Nat → Sp
  | 0 => fun _ _ _ _ => False
  | n + 1 => spAlike K n
section
variable {P : Program} {w : World} {K : PySem.W.Frag} {mg : Str → Option Value} {base : Heap}
abbrev nAl : List Str := ["_law_actual", "_law_due_here", "_law_k"]
theorem scAlike : FnScope nAl ["_law_actual", "_law_due_here"] (defScope sAlike) := ⟨rfl, rfl, rfl, by decide +kernel, rfl, by decide +kernel, by decide +kernel⟩
theorem alike_step {n : Nat} {f : Addr} {fd : FuncData} (F : Fun K "_law_alike" "_law_alike" sAlike f fd) (T : TxtI mg) (mA : mg "_law_alike" = some (.ref f)) (bA : Binds K fd ["_law_actual", "_law_due_here"] [])
    (GP : FnOk P w K mg base CX0 (n + 1) f fd ["_law_actual", "_law_due_here"] (spAlikeP K n)) : FnOk P w K mg base CX0 (n + 2) f fd ["_law_actual", "_law_due_here"] (spAlike K n) := by
  refine F.ok scAlike (fun vs H Q E h => ?_) (fun cdv A outer s H vs Q E hr h => ?_)
  · obtain ⟨x, y, d, rfl, _⟩ := h
    rfl
  · obtain ⟨x, y, d, rfl, rx, ry, hp, k⟩ := h
    have k0 := k H (Same.refl H)
    refine ⟨_, pss_cons (ps_if (pt_cmp (pc_isN (pv 1))) (pss_one (ps_ret (pe_cmp (pc_isN (pv 0))))) pss_nil)
      (pss_cons (ps_if (pt_val (pe_isi (pv 1) mono_var T.isi T.bool bb_bool)) (pss_one (ps_ret (pe_and (pe_isi (pv 0) mono_var T.isi T.bool bb_bool) (pe_one (pe_cmpR op_eq (pv 0) (pv 1) (nomark _)))))) pss_nil)
      (pss_cons (ps_if (pt_val (pe_isi (pv 1) mono_var T.isi T.int bb_int)) (pss_one (ps_ret (pe_and (pe_isi (pv 0) mono_var T.isi T.int bb_int) (pe_and (pe_not (pe_isi (pv 0) mono_var T.isi T.bool bb_bool)) (pe_one (pe_cmpR op_eq (pv 0) (pv 1) (nomark _))))))) pss_nil)
      (pss_cons (ps_if (pt_val (pe_isi (pv 1) mono_var T.isi T.str bb_str)) (pss_one (ps_ret (pe_and (pe_isi (pv 0) mono_var T.isi T.str bb_str) (pe_one (pe_cmpR op_eq (pv 0) (pv 1) (nomark _)))))) pss_nil)
      (pss_cons (ps_if (pw_and (pt_val (pe_isi (pv 1) mono_var T.isi T.tuple bb_tuple)) (pw_and1 (pt_not (pt_val (pe_isi (pv 0) mono_var T.isi T.tuple bb_tuple))))).pt (pss_one (ps_ret pe_bl)) pss_nil)
      (pss_cons (ps_if (pw_and (pt_val (pe_isi (pv 1) mono_var T.isi T.list bb_list)) (pw_and1 (pt_not (pt_val (pe_isi (pv 0) mono_var T.isi T.list bb_list))))).pt (pss_one (ps_ret pe_bl)) pss_nil)
      (pss_cons (ps_if (pt_cmpR op_ne (pe_callB call_len_seq (by rfl) T.len boot_len (pa_cons (pv 0) pa_nil)) (pe_callB call_len_seq (by rfl) T.len boot_len (pa_cons (pv 1) pa_nil)) (nomark _)) (pss_one (ps_ret pe_bl)) pss_nil)
      (pss_cons (ps_for PassesOwn.never rfl (pi_range1 (by rfl) T.range (pa_cons (pe_callB call_len_seq (by rfl) T.len boot_len (pa_cons (pv 1) pa_nil)) pa_nil)) (pg_name (i := 2) scAlike.nd rfl (Or.inl rfl))
        (pss_one (ps_if (pt_not (pt_val (pe_call GP hr (by rfl) mA F.kp bA .nil pass0 (pa_cons (pe_ix ix_tup (pv 0) (pv 2) (fun _ _ => rfl)) (pa_cons (pe_ix ix_tup (pv 1) (pv 2) (fun _ _ => rfl)) pa_nil))))) (pss_one (ps_ret pe_bl)) pss_nil)))
      (pss_one (ps_ret pe_bl))))))))), ?_⟩
    have no : ∀ {a b : V}, a ≠ b → ¬ decide (a = b) = true := fun h z => h (of_decide_eq_true z)
    have yes : ∀ x : V, V.bl (decide (x = x)) = V.bl true := fun x => by rw [decide_eq_true rfl]
    cases rx with
    | non =>
      cases ry
      exact ⟨_, rfl, _, rfl, iteT ⟨_, rfl, k0⟩⟩
    | bl b =>
      cases ry
      refine ⟨_, rfl, _, rfl, ite2 (fun z => absurd z (no (by intro q; cases q))) fun _ => ?_⟩
      refine ⟨_, rfl, _, _, .base (.bl b), kitYes (by decide +kernel), _, rfl, iteT ?_⟩
      refine ⟨_, rfl, _, _, .base (.bl b), kitYes (by decide +kernel), _, rfl, iteT ⟨_, rfl, _, rfl, rfl, ?_⟩⟩
      rw [yes]
      exact k0
    | int i =>
      cases ry
      refine ⟨_, rfl, _, rfl, ite2 (fun z => absurd z (no (by intro q; cases q))) fun _ => ?_⟩
      refine ⟨_, rfl, _, _, .base (.int i), kitNo (by decide +kernel), _, rfl, iteF ?_⟩
      refine ⟨_, rfl, _, _, .base (.int i), kitYes (by decide +kernel), _, rfl, iteT ?_⟩
      refine ⟨_, rfl, _, _, .base (.int i), kitYes (by decide +kernel), _, rfl, iteT ⟨_, rfl, _, _, .base (.int i), kitNo (by decide +kernel), _, rfl, _, rfl, iteT ⟨_, rfl, _, rfl, rfl, ?_⟩⟩⟩
      rw [yes]
      exact k0
    | str hz =>
      rename_i z
      cases ry
      refine ⟨_, rfl, _, rfl, ite2 (fun z => absurd z (no (by intro q; cases q))) fun _ => ?_⟩
      refine ⟨_, rfl, _, _, .base (.str z), kitNo (by decide +kernel), _, rfl, iteF ?_⟩
      refine ⟨_, rfl, _, _, .base (.str z), kitNo (by decide +kernel), _, rfl, iteF ?_⟩
      refine ⟨_, rfl, _, _, .base (.str z), kitYes (by decide +kernel), _, rfl, iteT ?_⟩
      refine ⟨_, rfl, _, _, .base (.str z), kitYes (by decide +kernel), _, rfl, iteT ⟨_, rfl, _, rfl, rfl, ?_⟩⟩
      rw [yes]
      exact k0
    | @tup p xs l hp1 ra =>
      obtain ⟨q, ys, rfl, hq, rb⟩ := ry.tup_inv
      have la := ra.len
      have lb := rb.len
      refine ⟨_, rfl, _, rfl, ite2 (fun z => absurd z (no (by intro q; cases q))) fun _ => ?_⟩
      refine ⟨_, rfl, _, _, .base (.tup hq), kitNo (by decide +kernel), _, rfl, iteF ?_⟩
      refine ⟨_, rfl, _, _, .base (.tup hq), kitNo (by decide +kernel), _, rfl, iteF ?_⟩
      refine ⟨_, rfl, _, _, .base (.tup hq), kitNo (by decide +kernel), _, rfl, iteF ?_⟩
      refine ⟨_, rfl, _, _, .base (.tup hq), kitYes (by decide +kernel), _, rfl, iteT ⟨_, rfl, _, _, .base (.tup hp1), kitYes (by decide +kernel), _, rfl, iteF ?_⟩⟩
      refine ⟨_, rfl, _, _, .base (.tup hq), kitNo (by decide +kernel), _, rfl, iteF (iteF ?_)⟩
      refine ⟨_, rfl, p, xs, rfl, .inr (SqT.of hp1), _, rfl, q, ys, rfl, .inr (SqT.of hq), rfl, _, rfl, iteNS (by rw [la, lb]) ?_⟩
      have l1000 : l.length ≤ 1000 := by
        cases n with
        | zero => cases hp
        | succ m => exact of_decide_eq_true (Bool.and_eq_true_iff.mp (show (decide (l.length ≤ 1000) && l.all (plainB m)) = true from hp)).1
      refine ⟨_, rfl, q, ys, rfl, .inr (SqT.of hq), _, rfl, by omega, by omega, for_range (lo := 0) (n := ys.length) (fun i σ H' => ∃ v : Option V, σ = [some (.ref p), some (.ref q), v] ∧ Same H H') ⟨_, rfl, Same.refl H⟩ ?_ ?_⟩
      · rintro i σ H' hi ⟨v, rfl, hS⟩
        cases n with
        | zero => cases hp
        | succ m =>
          have hp : l.all (plainB m) = true := (Bool.and_eq_true_iff.mp (show (decide (l.length ≤ 1000) && l.all (plainB m)) = true from hp)).2
          have li : i < l.length := by omega
          obtain ⟨vx, ex, rx⟩ := ra.get (i := i) (d := l[i]) (List.getElem?_eq_getElem li)
          obtain ⟨vy, ey, ry⟩ := rb.get (i := i) (d := l[i]) (List.getElem?_eq_getElem li)
          refine ⟨_, rfl, _, rfl, p, _, _, _, rfl, rfl, SqT.of (hS _ _ hp1), at_of (j := i) (by omega) ex, _, rfl, _, rfl, q, _, _, _, rfl, rfl, SqT.of (hS _ _ hq), at_of (j := i) (by omega) ey, ?_⟩
          exact ⟨vx, vy, l[i], rfl, rx.keep hS, ry.keep hS, List.all_eq_true.mp hp _ (List.getElem_mem li), fun H2 h2 => ⟨_, rfl, iteF ⟨_, rfl, hS.trans h2⟩⟩⟩
      · rintro σ H' ⟨v, rfl, hS⟩
        exact k H' hS
    | lst _ => cases n <;> cases hp
    | dct _ => cases n <;> cases hp
    | ins _ _ => cases n <;> cases hp
theorem ok_alike {f : Addr} {fd : FuncData} (F : Fun K "_law_alike" "_law_alike" sAlike f fd) (T : TxtI mg) (mA : mg "_law_alike" = some (.ref f)) (bA : Binds K fd ["_law_actual", "_law_due_here"] []) : ∀ n, FnOk P w K mg base CX0 (n + 2) f fd ["_law_actual", "_law_due_here"] (spAlike K n)
  | 0 => alike_step F T mA bA never_ok
  | n + 1 => alike_step F T mA bA (ok_alike F T mA bA n)
end
end Oh
namespace Oh
open PySem PySem.Spec PyProof.Rows L2 PpSet
/-- the same flat value, or two tuples, two lists of as many that are alike -/
def Al (H : Hp) : Nat → V → V → Prop
  | 0 => fun x y => x = y ∧ flatV x = true
  | n + 1 => fun x y => (x = y ∧ flatV x = true) ∨ ∃ p q xs ys, x = .ref p ∧ y = .ref q ∧ ((H p = some (.tup xs) ∧ H q = some (.tup ys)) ∨ (H p = some (.lst xs) ∧ H q = some (.lst ys))) ∧ xs.length = ys.length ∧ ys.length ≤ 1000 ∧ ∀ (i : Nat) (x y : V), xs[i]? = some x → ys[i]? = some y → Al H n x y
theorem Al.keep {H H' : Hp} (s : Same H H') : ∀ {n : Nat} {x y : V}, Al H n x y → Al H' n x y
  | 0, _, _, h => h
  | n + 1, _, _, h => by
    rcases h with h | ⟨p, q, xs, ys, e1, e2, h, hl, h1, h2⟩
    · exact .inl h
    · refine .inr ⟨p, q, xs, ys, e1, e2, ?_, hl, h1, fun i x y e1 e2 => Al.keep s (h2 i x y e1 e2)⟩
      rcases h with ⟨a, b⟩ | ⟨a, b⟩
      · exact .inl ⟨s _ _ a, s _ _ b⟩
      · exact .inr ⟨s _ _ a, s _ _ b⟩
def spAlikeL (n : Nat) : Sp := fun vs H Q _ => ∃ x y, vs = [x, y] ∧ Al H n x y ∧ ∀ H', Same H H' → Q (.bl true) H'
def spAlikeLP : Nat → Sp
  | 0 => fun _ _ _ _ => False
  | n + 1 => spAlikeL n
section
variable {P : Program} {w : World} {K : PySem.W.Frag} {mg : Str → Option Value} {base : Heap}
theorem alikeL_step {n : Nat} {f : Addr} {fd : FuncData} (F : Fun K "_law_alike" "_law_alike" sAlike f fd) (T : TxtI mg) (mA : mg "_law_alike" = some (.ref f)) (bA : Binds K fd ["_law_actual", "_law_due_here"] [])
    (GP : FnOk P w K mg base CX0 (n + 1) f fd ["_law_actual", "_law_due_here"] (spAlikeLP n)) : FnOk P w K mg base CX0 (n + 2) f fd ["_law_actual", "_law_due_here"] (spAlikeL n) := by
  refine F.ok scAlike (fun vs H Q E h => ?_) (fun cdv A outer s H vs Q E hr h => ?_)
  · obtain ⟨x, y, rfl, _⟩ := h
    rfl
  · obtain ⟨x, y, rfl, ha, k⟩ := h
    have k0 := k H (Same.refl H)
    refine ⟨_, pss_cons (ps_if (pt_cmp (pc_isN (pv 1))) (pss_one (ps_ret (pe_cmp (pc_isN (pv 0))))) pss_nil)
      (pss_cons (ps_if (pt_val (pe_isi (pv 1) mono_var T.isi T.bool bb_bool)) (pss_one (ps_ret (pe_and (pe_isi (pv 0) mono_var T.isi T.bool bb_bool) (pe_one (pe_cmpR op_eq (pv 0) (pv 1) (nomark _)))))) pss_nil)
      (pss_cons (ps_if (pt_val (pe_isi (pv 1) mono_var T.isi T.int bb_int)) (pss_one (ps_ret (pe_and (pe_isi (pv 0) mono_var T.isi T.int bb_int) (pe_and (pe_not (pe_isi (pv 0) mono_var T.isi T.bool bb_bool)) (pe_one (pe_cmpR op_eq (pv 0) (pv 1) (nomark _))))))) pss_nil)
      (pss_cons (ps_if (pt_val (pe_isi (pv 1) mono_var T.isi T.str bb_str)) (pss_one (ps_ret (pe_and (pe_isi (pv 0) mono_var T.isi T.str bb_str) (pe_one (pe_cmpR op_eq (pv 0) (pv 1) (nomark _)))))) pss_nil)
      (pss_cons (ps_if (pw_and (pt_val (pe_isi (pv 1) mono_var T.isi T.tuple bb_tuple)) (pw_and1 (pt_not (pt_val (pe_isi (pv 0) mono_var T.isi T.tuple bb_tuple))))).pt (pss_one (ps_ret pe_bl)) pss_nil)
      (pss_cons (ps_if (pw_and (pt_val (pe_isi (pv 1) mono_var T.isi T.list bb_list)) (pw_and1 (pt_not (pt_val (pe_isi (pv 0) mono_var T.isi T.list bb_list))))).pt (pss_one (ps_ret pe_bl)) pss_nil)
      (pss_cons (ps_if (pt_cmpR op_ne (pe_callB call_len_seq (by rfl) T.len boot_len (pa_cons (pv 0) pa_nil)) (pe_callB call_len_seq (by rfl) T.len boot_len (pa_cons (pv 1) pa_nil)) (nomark _)) (pss_one (ps_ret pe_bl)) pss_nil)
      (pss_cons (ps_for PassesOwn.never rfl (pi_range1 (by rfl) T.range (pa_cons (pe_callB call_len_seq (by rfl) T.len boot_len (pa_cons (pv 1) pa_nil)) pa_nil)) (pg_name (i := 2) scAlike.nd rfl (Or.inl rfl))
        (pss_one (ps_if (pt_not (pt_val (pe_call GP hr (by rfl) mA F.kp bA .nil pass0 (pa_cons (pe_ix (ix_tup.or ix_list) (pv 0) (pv 2) (fun _ _ => rfl)) (pa_cons (pe_ix (ix_tup.or ix_list) (pv 1) (pv 2) (fun _ _ => rfl)) pa_nil))))) (pss_one (ps_ret pe_bl)) pss_nil)))
      (pss_one (ps_ret pe_bl))))))))), ?_⟩
    have no : ∀ {a b : V}, a ≠ b → ¬ decide (a = b) = true := fun h z => h (of_decide_eq_true z)
    have yes : ∀ x : V, V.bl (decide (x = x)) = V.bl true := fun x => by rw [decide_eq_true rfl]
    have flat : ∀ {x y : V}, x = y → flatV x = true → (x = .non ∨ (∃ b, x = .bl b) ∨ (∃ i, x = .int i) ∨ ∃ z, x = .str z) := fun {x y} _ h => by
      cases x with
      | non => exact .inl rfl
      | bl b => exact .inr (.inl ⟨b, rfl⟩)
      | int i => exact .inr (.inr (.inl ⟨i, rfl⟩))
      | str z => exact .inr (.inr (.inr ⟨z, rfl⟩))
      | _ => cases h
    have hc : (x = y ∧ flatV x = true) ∨ ∃ p q xs ys m, n = m + 1 ∧ x = .ref p ∧ y = .ref q ∧ ((H p = some (.tup xs) ∧ H q = some (.tup ys)) ∨ (H p = some (.lst xs) ∧ H q = some (.lst ys))) ∧ xs.length = ys.length ∧ ys.length ≤ 1000 ∧ ∀ (i : Nat) (x y : V), xs[i]? = some x → ys[i]? = some y → Al H m x y := by
      cases n with
      | zero => exact .inl ha
      | succ m =>
        rcases ha with h | ⟨p, q, xs, ys, z⟩
        · exact .inl h
        · exact .inr ⟨p, q, xs, ys, m, rfl, z⟩
    rcases hc with ⟨rfl, h⟩ | ⟨p, q, xs, ys, m, rfl, rfl, rfl, h, hl, l1000, hal⟩
    · rcases flat rfl h with rfl | ⟨b, rfl⟩ | ⟨i, rfl⟩ | ⟨z, rfl⟩
      · exact ⟨_, rfl, _, rfl, iteT ⟨_, rfl, k0⟩⟩
      · refine ⟨_, rfl, _, rfl, ite2 (fun z => absurd z (no (by intro q; cases q))) fun _ => ?_⟩
        refine ⟨_, rfl, _, _, .base (.bl b), kitYes (by decide +kernel), _, rfl, iteT ?_⟩
        refine ⟨_, rfl, _, _, .base (.bl b), kitYes (by decide +kernel), _, rfl, iteT ⟨_, rfl, _, rfl, rfl, ?_⟩⟩
        rw [yes]
        exact k0
      · refine ⟨_, rfl, _, rfl, ite2 (fun z => absurd z (no (by intro q; cases q))) fun _ => ?_⟩
        refine ⟨_, rfl, _, _, .base (.int i), kitNo (by decide +kernel), _, rfl, iteF ?_⟩
        refine ⟨_, rfl, _, _, .base (.int i), kitYes (by decide +kernel), _, rfl, iteT ?_⟩
        refine ⟨_, rfl, _, _, .base (.int i), kitYes (by decide +kernel), _, rfl, iteT ⟨_, rfl, _, _, .base (.int i), kitNo (by decide +kernel), _, rfl, _, rfl, iteT ⟨_, rfl, _, rfl, rfl, ?_⟩⟩⟩
        rw [yes]
        exact k0
      · refine ⟨_, rfl, _, rfl, ite2 (fun z => absurd z (no (by intro q; cases q))) fun _ => ?_⟩
        refine ⟨_, rfl, _, _, .base (.str z), kitNo (by decide +kernel), _, rfl, iteF ?_⟩
        refine ⟨_, rfl, _, _, .base (.str z), kitNo (by decide +kernel), _, rfl, iteF ?_⟩
        refine ⟨_, rfl, _, _, .base (.str z), kitYes (by decide +kernel), _, rfl, iteT ?_⟩
        refine ⟨_, rfl, _, _, .base (.str z), kitYes (by decide +kernel), _, rfl, iteT ⟨_, rfl, _, rfl, rfl, ?_⟩⟩
        rw [yes]
        exact k0
    · have len : ∀ {H' : Hp} {a : Addr} {b : Addr} {us ws : List V}, Same H H' → ((H a = some (.tup us) ∧ H b = some (.tup ws)) ∨ (H a = some (.lst us) ∧ H b = some (.lst ws))) → (SqL K H' a us ∨ SqT K H' a us) ∧ (SqL K H' b ws ∨ SqT K H' b ws) := fun s h => by
        rcases h with ⟨a, b⟩ | ⟨a, b⟩
        · exact ⟨.inr (SqT.of (s _ _ a)), .inr (SqT.of (s _ _ b))⟩
        · exact ⟨.inl (SqL.of (s _ _ a)), .inl (SqL.of (s _ _ b))⟩
      refine ⟨_, rfl, _, rfl, ite2 (fun z => absurd z (no (by intro q; cases q))) fun _ => ?_⟩
      have L0 := len (Same.refl H) h
      rcases h with ⟨hp, hq⟩ | ⟨hp, hq⟩
      case' inl =>
        refine ⟨_, rfl, _, _, .base (.tup hq), kitNo (by decide +kernel), _, rfl, iteF ?_⟩
        refine ⟨_, rfl, _, _, .base (.tup hq), kitNo (by decide +kernel), _, rfl, iteF ?_⟩
        refine ⟨_, rfl, _, _, .base (.tup hq), kitNo (by decide +kernel), _, rfl, iteF ?_⟩
        refine ⟨_, rfl, _, _, .base (.tup hq), kitYes (by decide +kernel), _, rfl, iteT ⟨_, rfl, _, _, .base (.tup hp), kitYes (by decide +kernel), _, rfl, iteF ?_⟩⟩
        refine ⟨_, rfl, _, _, .base (.tup hq), kitNo (by decide +kernel), _, rfl, iteF (iteF ?_)⟩
        have ix : ∀ {H' : Hp} {i : Nat} {x : V} {Q' : VK} (s : Same H H') (a : Addr) (us : List V), (H a = some (.tup us)) → us[i]? = some x → Q' x H' → (rIxT K (.ref a) (.int (i : Int)) H' Q' ∨ rIxL K (.ref a) (.int (i : Int)) H' Q') := fun {H' i x Q'} s a us ha hx q =>
          .inl ⟨a, us, _, x, rfl, rfl, SqT.of (s _ _ ha), at_of (j := i) rfl hx, q⟩
      case' inr =>
        refine ⟨_, rfl, _, _, .base (.lst hq), kitNo (by decide +kernel), _, rfl, iteF ?_⟩
        refine ⟨_, rfl, _, _, .base (.lst hq), kitNo (by decide +kernel), _, rfl, iteF ?_⟩
        refine ⟨_, rfl, _, _, .base (.lst hq), kitNo (by decide +kernel), _, rfl, iteF ?_⟩
        refine ⟨_, rfl, _, _, .base (.lst hq), kitNo (by decide +kernel), _, rfl, iteF (iteF ?_)⟩
        refine ⟨_, rfl, _, _, .base (.lst hq), kitYes (by decide +kernel), _, rfl, iteT ⟨_, rfl, _, _, .base (.lst hp), kitYes (by decide +kernel), _, rfl, iteF ?_⟩⟩
        have ix : ∀ {H' : Hp} {i : Nat} {x : V} {Q' : VK} (s : Same H H') (a : Addr) (us : List V), (H a = some (.lst us)) → us[i]? = some x → Q' x H' → (rIxT K (.ref a) (.int (i : Int)) H' Q' ∨ rIxL K (.ref a) (.int (i : Int)) H' Q') := fun {H' i x Q'} s a us ha hx q =>
          .inr ⟨a, us, _, x, rfl, rfl, SqL.of (s _ _ ha), at_of (j := i) rfl hx, q⟩
      all_goals
        refine ⟨_, rfl, p, xs, rfl, L0.1, _, rfl, q, ys, rfl, L0.2, rfl, _, rfl, iteNS (by rw [hl]) ?_⟩
        refine ⟨_, rfl, q, ys, rfl, L0.2, _, rfl, by omega, by omega, for_range (lo := 0) (n := ys.length) (fun i σ H' => ∃ v : Option V, σ = [some (.ref p), some (.ref q), v] ∧ Same H H') ⟨_, rfl, Same.refl H⟩ ?_ ?_⟩
        · rintro i σ H' hi ⟨v, rfl, hS⟩
          have hi : i < ys.length := by omega
          have ex := List.getElem?_eq_getElem (l := xs) (i := i) (by omega)
          have ey := List.getElem?_eq_getElem (l := ys) (i := i) hi
          refine ⟨_, rfl, _, rfl, ?_⟩
          rw [show ((0 : Int) + (i : Int)) = ((i : Nat) : Int) by omega]
          refine ix hS p xs hp ex ⟨_, rfl, _, rfl, ix hS q ys hq ey ?_⟩
          exact ⟨_, _, rfl, (hal i _ _ ex ey).keep hS, fun H2 h2 => ⟨_, rfl, iteF ⟨_, rfl, hS.trans h2⟩⟩⟩
        · rintro σ H' ⟨v, rfl, hS⟩
          exact k H' hS
theorem ok_alikeL {f : Addr} {fd : FuncData} (F : Fun K "_law_alike" "_law_alike" sAlike f fd) (T : TxtI mg) (mA : mg "_law_alike" = some (.ref f)) (bA : Binds K fd ["_law_actual", "_law_due_here"] []) : ∀ n, FnOk P w K mg base CX0 (n + 2) f fd ["_law_actual", "_law_due_here"] (spAlikeL n)
  | 0 => alikeL_step F T mA bA never_ok
  | n + 1 => alikeL_step F T mA bA (ok_alikeL F T mA bA n)
end
end Oh
namespace Oh
open PySem PySem.Spec PyProof.Rows L2 PpSet
/-- what the law knows of a routine and its rows -/
structure RowsR (K : PySem.W.Frag) (H : Hp) (hR r : Addr) (v : V) (d : DT) (rs : List WRow) : Prop where
  R : RoutD K H hR r v d
  e : (rowsD d).map pr2 = rs.map pw2
  p : ∀ q ∈ rs, plainB 128 q.2.1 = true
  l : ∀ q ∈ rs, q.1.length ≤ 1000
theorem RowsR.keep {K : PySem.W.Frag} {H H' : Hp} {hR r : Addr} {v : V} {d : DT} {rs : List WRow} (s : Same H H') (h : RowsR K H hR r v d rs) : RowsR K H' hR r v d rs := ⟨h.R.keep s, h.e, h.p, h.l⟩
theorem RowsR.row {K : PySem.W.Frag} {H : Hp} {hR r : Addr} {v : V} {d : DT} {rs : List WRow} (h : RowsR K H hR r v d rs) {x : WRow} (hx : x ∈ rs) : ∃ q ∈ rowsD d, q.1 = x.1 ∧ q.2.1 = x.2.1 := by
  have : pw2 x ∈ (rowsD d).map pr2 := by rw [h.e]; exact List.mem_map_of_mem hx
  obtain ⟨q, hq, e⟩ := List.mem_map.mp this
  exact ⟨q, hq, congrArg Prod.fst e, congrArg Prod.snd e⟩
theorem RowsR.back {K : PySem.W.Frag} {H : Hp} {hR r : Addr} {v : V} {d : DT} {rs : List WRow} (h : RowsR K H hR r v d rs) {q : LRow} (hq : q ∈ rowsD d) : ∃ x ∈ rs, x.1 = q.1 ∧ x.2.1 = q.2.1 := by
  have : pr2 q ∈ rs.map pw2 := by rw [← h.e]; exact List.mem_map_of_mem hq
  obtain ⟨x, hx, e⟩ := List.mem_map.mp this
  exact ⟨x, hx, congrArg Prod.fst e, congrArg Prod.snd e⟩
/-- one path, one statement -/
theorem RowsR.one {K : PySem.W.Frag} {H : Hp} {hR r : Addr} {v : V} {d : DT} {rs : List WRow} (h : RowsR K H hR r v d rs) {x y : WRow} (hx : x ∈ rs) (hy : y ∈ rs) (e : x.1 = y.1) : x.2.1 = y.2.1 := by
  obtain ⟨q, hq, e1, e2⟩ := h.row hx
  obtain ⟨q', hq', e3, e4⟩ := h.row hy
  obtain rfl := lay_one hq hq' (e3.trans (e.symm.trans e1.symm))
  exact e2.symm.trans e4
theorem RowsR.at_ {K : PySem.W.Frag} {H : Hp} {hR r : Addr} {v : V} {d : DT} {rs : List WRow} (h : RowsR K H hR r v d rs) {x : WRow} (hx : x ∈ rs) {q : LRow} (hq : q ∈ rowsD d) (e : pathD x.1 = pathD q.1) : q.2.1 = x.2.1 := by
  obtain ⟨y, hy, e1, e2⟩ := h.back hq
  rw [← e2]
  exact h.one hy hx (e1.trans (pathD_inj e).symm)
def spAgree5 (K : PySem.W.Frag) (hR : Addr) : Sp := fun vs H Q _ => ∃ r L v d xs rs, vs = [.ref r, .ref L] ∧ RowsR K H hR r v d rs ∧ H L = some (.lst xs) ∧ RowsA K H xs rs ∧ ∀ H', Same H H' → Q (.bl true) H'
section
variable {P : Program} {w : World} {K : PySem.W.Frag} {mg : Str → Option Value} {base : Heap} {hR hNP : Addr}
abbrev nAg5 : List Str := ["_law_routine", "_law_rows_here", "_law_path", "_law_statement_here"]
theorem scAg5 : FnScope nAg5 ["_law_routine", "_law_rows_here"] (defScope lStatementsAgree) := ⟨rfl, rfl, rfl, by decide +kernel, rfl, by decide +kernel, by decide +kernel⟩
theorem ok_agree5 {f fS fA : Addr} {fd fdS fdA : FuncData} (F : Fun K "_law_statements_agree" "_law_statements_agree" lStatementsAgree f fd) (C : RCls K hR)
    (aS : Meth K hR "statement" fS) (GS : FnOk P w K mg base (L2.CX P w) 3 fS fdS ["self", "path"] (spStatement K hR hNP)) (bS : Binds K fdS ["self", "path"] [])
    (GA : FnOk P w K mg base CX0 130 fA fdA ["_law_actual", "_law_due_here"] (spAlike K 128)) (kA : PySem.W.keepIn K (.ref fA) = true) (bA : Binds K fdA ["_law_actual", "_law_due_here"] []) (mA : mg "_law_alike" = some (.ref fA)) : FnOk P w K mg base CX0 131 f fd ["_law_routine", "_law_rows_here"] (spAgree5 K hR) := by
  refine F.ok scAg5 (fun vs H Q E h => ?_) (fun cdv A outer s H vs Q E hr h => ?_)
  · obtain ⟨r, L, v, d, xs, rs, rfl, _⟩ := h
    rfl
  · obtain ⟨r, L, v, d, xs, rs, rfl, RR, hL, ra, k⟩ := h
    have hr3 : Room 3 _ := hr.mono (by decide)
    refine ⟨_, (pss_cons (ps_for PassesOwn.never rfl (pi_list (pv 1)) (pg_tup rfl (pgs_cons (pg_name (i := 2) scAg5.nd rfl (Or.inl rfl)) (pgs_cons (pg_name (i := 3) scAg5.nd rfl (Or.inl rfl)) pgs_nil)))
        (pss_one (ps_if (pt_not (pt_val (pe_call GA hr (by rfl) mA kA bA .nil pass0 (pa_cons (pe_meth (pv 0) C.cl aS GS hr3 bS .nil passL (pa_cons (pv 2) pa_nil)) (pa_cons (pv 3) pa_nil)))))
          (pss_one (ps_ret pe_bl)) pss_nil)))
      (pss_one (ps_ret pe_bl))), ?_⟩
    have lx := Paired.length ra
    refine ⟨_, rfl, L, rfl, ⟨_, SqL.of hL⟩, for_it (walk_list (K := K) (a := L) (xs := xs)) (fun i σ H' => ∃ x2 x3 : Option V, σ = [some (.ref r), some (.ref L), x2, x3] ∧ Same H H') ⟨_, _, rfl, Same.refl H⟩ (fun i σ H' _ ⟨_, _, _, s⟩ => SqL.of (s _ _ hL)) ?_ ?_⟩
    · rintro i x σ Ha Hb hi ⟨x2, x3, rfl, sa⟩ ⟨e, ex⟩
      subst e
      have li : i < rs.length := by omega
      have er : rs[i]? = some rs[i] := List.getElem?_eq_getElem li
      obtain ⟨x', ex', R, T, vS, rfl, hR', hT, rvS⟩ := RowsA.at_ ra er
      obtain rfl := Option.some.inj (ex.symm.trans ex')
      have hm := List.getElem_mem li
      generalize rs[i] = rr at hT rvS hm
      refine ⟨R, [.ref T, vS], rfl, SqT.of (sa _ _ hR'), rfl, .ref T, [vS], rfl, vS, [], rfl, rfl, ?_⟩
      obtain ⟨dx, D1, D2, N1, N2, k1, k2, eI, _⟩ := (RR.R.keep sa).ex
      refine ⟨_, rfl, r, dx, _, rfl, eI, rfl, _, rfl, r, v, d, .ref T, pathD rr.1, rfl, RR.R.keep sa, path_rp (sa _ _ hT), fun q hq eq u H2 s2 ru => ?_, fun no => ?_⟩
      · refine ⟨_, rfl, u, vS, rr.2.1, rfl, by rw [← RR.at_ hm hq eq]; exact ru, (rvS.keep sa).keep s2, RR.p _ hm, fun H3 s3 => ⟨_, rfl, iteF ⟨_, _, rfl, (sa.trans s2).trans s3⟩⟩⟩
      · obtain ⟨q, hq, e1, _⟩ := RR.row hm
        exact absurd (by rw [e1]) (no q hq)
    · rintro σ H' ⟨x2, x3, rfl, s⟩
      exact k H' s
end
end Oh
/-! for k, v in d.items(), the keys of d tuples. -/
namespace L2
open PySem PySem.Spec PyProof.Rows
section
variable {X : Cx} {pins : List (Addr × Obj)} {σ : St} {H : Hp} {s : Shared} {d : Addr} {o : Obj}
theorem Inv.frzTV {kvs : List (List Key × V)} (J : Inv X pins σ H s) (hd : H d = some (.frz o (.dT kvs))) :
    (d == sysModules) = false ∧ ∃ (es : Array DictEntry) (ep : Nat), o.data = .dict es ep ∧ DT.Raw s.heap d es ep ∧ es.size = kvs.length ∧
      ∀ (i : Nat) (k : List Key) (v : V), kvs[i]? = some (k, v) → ∃ (en : DictEntry) (q : Addr), es[i]? = some en ∧ en.key = .ref q ∧ H q = some (.tup (k.map kV)) ∧ RelV v en.val := by
  obtain ⟨od, _, ns, xs, pr, o', es, ep, oe, ox, dt, he, _⟩ := J.hok d _ hd
  obtain rfl : o' = o := Option.some.inj (oe.symm.trans od)
  refine ⟨ns, es, ep, dt, ⟨o', od, ox, dt⟩, ?_, fun i k v e => ?_⟩
  · have lx : es.size = xs.length := size_of_entries he
    have lk : kvs.length = xs.length := Paired.length pr
    exact lx.trans lk.symm
  · obtain ⟨x, hx, eq, ht, rv⟩ := paired_get pr e
    have q := entry_at he i
    rw [hx] at q
    exact ⟨_, x.2.1, q, rfl, ht, rv⟩
end
/-- the pairs of a dict with tuple keys: each pair is new, its key the entry's own tuple -/
def ItT (d : Addr) (o : Obj) (kvs : List (List Key × V)) : It where
  go := fun i H => H d = some (.frz o (.dT kvs)) ∧ i < kvs.length
  yld := fun i H x H' => ∃ (T q : Addr) (k : List Key) (v : V), kvs[i]? = some (k, v) ∧ x = .ref T ∧ H T = none ∧ H q = some (.tup (k.map kV)) ∧ H' = upd H T (.tup [.ref q, v])
  stop := fun i H => H d = some (.frz o (.dT kvs)) ∧ kvs.length ≤ i
section
variable {P : Program} {w : World} {K : PySem.W.Frag} {d : Addr} {o : Obj} {es : Array DictEntry} {ep : Nat}
theorem turn_itT {kvs : List (List Key × V)} {elts : List Expr} {kk : Nat} {tpos : Pos} (it : Addr) (od : o.data = .dict es ep) :
    Turn P w K (.Tuple elts kk tpos) (ItT d o kvs) [it] it (fun i h => ∃ k0 v0, IsItemIter h it d i kvs.length ep k0 v0) where
  mem := List.mem_singleton.mpr rfl
  obj := fun i h ⟨k0, v0, e⟩ b hb => by
    obtain rfl := List.mem_singleton.mp hb
    exact ⟨_, e, fun v z => nomatch z⟩
  keep := fun i h h' ⟨k0, v0, e⟩ k => ⟨k0, v0, k it (List.mem_singleton.mpr rfl) _ e⟩
  item := by
    rintro X rfl rfl rfl calm i pins s σ H E J fr ⟨k0, v0, st⟩ ⟨hd, hi⟩
    obtain ⟨ns, es', ep', dt, raw, sz, ent⟩ := J.frzTV hd
    obtain ⟨rfl, rfl⟩ := dict_ep od dt
    obtain ⟨en, q, een, ek, hq, rv⟩ := ent i _ _ (List.getElem?_eq_getElem hi)
    have lt : it < s.heap.objs.size := Heap.lt_size st
    have li : i < es'.size := by rw [sz]; exact hi
    have eg : es'[i] = en := Option.some.inj ((Array.getElem?_eq_getElem li).symm.trans een)
    rw [← sz] at st
    refine DT.nextI st raw li fun h' out new _ kp => ⟨_, rfl, wpAny_letOwnedTupleGo_items (s := { s with heap := h' }) out fun h'' st' sb => ?_⟩
    rw [eg] at new st'
    have new2 := (sb.2 s.heap.objs.size (Nat.ne_of_gt lt)).trans new
    have ok : ObjOk X.prog X.w (upd H s.heap.objs.size (.tup [.ref q, (kvs[i]).2])) h'' s.heap.objs.size (.tup [.ref q, (kvs[i]).2]) :=
      ⟨by show 2 ≤ sizeLine; decide, [en.key, en.val], .cons ek (.cons rv .nil), ⟨_, new2, rfl, _, rfl⟩⟩
    refine ⟨.ref s.heap.objs.size, _, J.turnedNew (t' := s.toks) (h' := h'') (ch := [it]) (fun b ob hb e => (sb.2 b fun z => hb (List.mem_singleton.mpr z)).trans (kp b ob (fun z => hb (List.mem_singleton.mpr z)) e)) fr (Nat.le_refl _) ok, rfl,
      ⟨_, q, _, _, List.getElem?_eq_getElem hi, rfl, J.hok.fresh (Nat.le_refl _), hq, rfl⟩, ⟨_, _, by rw [← sz]; exact st'⟩, fun b hb => ?_⟩
    obtain rfl := List.mem_singleton.mp hb
    rw [upd_ne (Nat.ne_of_lt lt)]
    exact (fr b hb).1
  done := by
    rintro X rfl rfl rfl calm i pins s σ H E J fr ⟨k0, v0, st⟩ ⟨hd, hi⟩
    obtain ⟨g0, g1, g2, g3, g4, g5⟩ := fr it (List.mem_singleton.mpr rfl)
    obtain ⟨ns, es', ep', dt, raw, sz, ent⟩ := J.frzTV hd
    obtain ⟨rfl, rfl⟩ := dict_ep od dt
    rw [← sz] at st hi
    exact DT.endI (J.ok.hd calm) st raw hi fun h' eb => ⟨rfl, J.turned (t' := s.toks) (fun b ob hb e => eb b ob hb e) g0 g1 g3 g4 g5⟩
  self := fun A i s Q E ⟨_, _, e⟩ h => PySem.W.kcp_self e h
end
def iItT (td : TE) : TI := fun σ H R => td σ H fun x H1 => ∃ d o kvs, x = .ref d ∧ H1 d = some (.frz o (.dT kvs)) ∧ R (ItT d o kvs) H1
theorem pi_itT {X : Cx} {e : Expr} {td : TE} {apos cpos : Pos} {elts : List Expr} {kk : Nat} {tpos : Pos} (he : PE X e td) (hb : attributeBase e "items" X.env (eval e X.env) = eval e X.env := by rfl) (hl : (apos.endLine == cpos.line) = true := by rfl) :
    PI X (.Tuple elts kk tpos) (.Call (.Attribute e "items" apos) [] [] cpos) (iItT td) := by
  refine ⟨fun pins s σ H R J h => ?_⟩
  refine wpAny_Call_method (T := "dict") (id := "dict.items") hb rfl hl F.plainAttrs_dict F.slot_dict_items F.type_dict_items (thn (he.run pins s σ H _ J h) ?_)
  rintro u s1 ⟨x, H1, J1, rx, d, o, kvs, rfl, hd, q⟩
  obtain rfl : u = Value.ref d := rx
  obtain ⟨ns, es, ep, dt, raw, sz, ent⟩ := J1.frzTV hd
  obtain ⟨ob, g1, g2, g3⟩ := id raw
  refine ⟨⟨ob, g1, g2.1⟩, fun a e => ?_, ?_⟩
  · cases e
    exact ⟨ob, g1, g2.2.1⟩
  show wpAny _ _ (callWith cpos (.builtin "dict.items") [.ref d] [] []) _ X.xe s1
  refine method_meetsIn F.slot_dict_items F.entry_dict_items rfl (PySem.evalArgs_none ⟨rfl, raw.typeIs, F.args_dict_items_1 _, _, DT.meetsItems (es := es) (ep := ep) ns, raw, ?_⟩)
  have J2 : Inv X pins σ H1 { s1 with heap := s1.heap.push { cls := .type "dict_items", data := .fields #[.ref d] } } := J1.kept (t' := s1.toks) fun b ob q => Heap.get?_push_of_some _ q
  refine DT.iterI (d := d) ⟨_, Heap.get?_push_size _ rfl, rfl, rfl⟩ (raw.push _) (pi_one (tk := s1.toks) J2 _ (turn_itT _ dt) ⟨.none, .none, ?_⟩ q)
  rw [← sz]
  exact Heap.get?_push_size _ rfl
end L2
namespace Oh
open PySem PySem.Spec PyProof.Rows L2 PpSet
abbrev sRLines : Stmt := inClass (top 46) 5
abbrev openL (q : LRow) : Bool := decide (headB q.2.1 = "open")
theorem walk_itT {d : Addr} {o : Obj} {kvs : List (List L2.Key × V)} : Walk (ItT d o kvs) kvs.length (fun H => H d = some (.frz o (.dT kvs))) (fun i H x H' => ∃ (T q : Addr) (k : List L2.Key) (v : V), kvs[i]? = some (k, v) ∧ x = .ref T ∧ H T = none ∧ H q = some (.tup (k.map kV)) ∧ H' = upd H T (.tup [.ref q, v])) :=
  ⟨fun _ _ hi q => ⟨q, hi⟩, fun _ q => ⟨q, Nat.le_refl _⟩, fun _ _ _ _ _ _ y => y⟩
def PathP (H : Hp) (b : Addr) (q : LRow) : Prop := H b = some (.tup (pathV q.1))
theorem PathsP.keep {H H' : Hp} (s : Same H H') : ∀ {bs : List Addr} {qs : List LRow}, Paired (PathP H) bs qs → Paired (PathP H') bs qs
  | _, _, .nil => .nil
  | _, _, .cons h t => .cons (s _ _ h) (PathsP.keep s t)
theorem PathsP.upd {H : Hp} {D : Addr} {o : Obj} {u : HO} (_ : True → True) (hD : H D = some (.frz o u)) {z : HO} : ∀ {bs : List Addr} {qs : List LRow}, Paired (PathP H) bs qs → Paired (PathP (L2.upd H D z)) bs qs
  | _, _, .nil => .nil
  | _, _, .cons (a := b) h t => .cons (show L2.upd H D z b = _ by rw [upd_ne (fun e => by have h : H b = _ := h; rw [e, hD] at h; cases h)]; exact h) (PathsP.upd (fun z => z) hD t)
theorem PathsP.updL {H : Hp} {D : Addr} {xs : List V} (hD : H D = some (.lst xs)) {z : HO} : ∀ {bs : List Addr} {qs : List LRow}, Paired (PathP H) bs qs → Paired (PathP (L2.upd H D z)) bs qs
  | _, _, .nil => .nil
  | _, _, .cons (a := b) h t => .cons (show L2.upd H D z b = _ by rw [upd_ne (fun e => by have h : H b = _ := h; rw [e, hD] at h; cases h)]; exact h) (PathsP.updL hD t)
theorem PathsP.append {H : Hp} : ∀ {as bs : List Addr} {ps qs : List LRow}, Paired (PathP H) as ps → Paired (PathP H) bs qs → Paired (PathP H) (as ++ bs) (ps ++ qs)
  | _, _, _, _, .nil, h => h
  | _, _, _, _, .cons h t, z => .cons h (PathsP.append t z)
/-- the list of the paths of the open lines -/
def spLines (K : PySem.W.Frag) (hR : Addr) : Sp := fun vs H Q _ => ∃ r v d, vs = [.ref r] ∧ RoutD K H hR r v d ∧ (∀ q ∈ rowsD d, stmtB q.2.1 = true) ∧ (rowsD d).length ≤ 1000 ∧
  ∀ (bs : List Addr) p H', Same H H' → H p = none → H' p = some (.lst (bs.map V.ref)) → Paired (PathP H') bs ((rowsD d).filter openL) → Q (.ref p) H'
mutual
theorem Rp.updT {K : PySem.W.Frag} {H : Hp} {D : Addr} {kvs : List (List L2.Key × V)} {o : HO} (hD : H D = some (.dT kvs)) : ∀ {v : V} {d : DT}, Rp K H v d → Rp K (upd H D o) v d
  | _, _, .non => .non
  | _, _, .bl b => .bl b
  | _, _, .int i => .int i
  | _, _, .str z => .str z
  | _, _, .tup e r => .tup (by rw [upd_ne (fun z => by rw [z, hD] at e; cases e)]; exact e) (RpAll.updT hD r)
  | _, _, .lst e => .lst (by rw [upd_ne (fun z => by rw [z, hD] at e; cases e)]; exact e)
  | _, _, .dct e => .dct (by rw [upd_ne (fun z => by rw [z, hD] at e; cases e)]; exact e)
  | _, _, .ins e c => .ins (by rw [upd_ne (fun z => by rw [z, hD] at e; cases e)]; exact e) c
theorem RpAll.updT {K : PySem.W.Frag} {H : Hp} {D : Addr} {kvs : List (List L2.Key × V)} {o : HO} (hD : H D = some (.dT kvs)) : ∀ {vs : List V} {ds : List DT}, RpAll K H vs ds → RpAll K (upd H D o) vs ds
  | _, _, .nil => .nil
  | _, _, .cons h t => .cons (Rp.updT hD h) (RpAll.updT hD t)
end
theorem TabAt.at_ {Z : Hp → V → LRow → Prop} {H : Hp} : ∀ {kvs : List (List L2.Key × V)} {rows : List LRow} {i : Nat} {r : LRow}, TabAt Z H kvs rows → rows[i]? = some r → ∃ kv, kvs[i]? = some kv ∧ kv.1 = keyP r.1 ∧ Z H kv.2 r
  | _, _, _, _, .nil, h => by cases h
  | _, _, 0, _, .cons (a := x) h _, e => ⟨x, rfl, by cases e; exact h.1, by cases e; exact h.2⟩
  | _, _, i + 1, _, .cons _ t, e => TabAt.at_ (i := i) t e
section
variable {P : Program} {w : World} {K : PySem.W.Frag} {mg : Str → Option Value} {base : Heap} {hR : Addr}
abbrev nLi : List Str := ["self", "path", "statement"]
theorem scRLines : FnScope nLi ["self"] (defScope sRLines) := ⟨rfl, rfl, rfl, by decide +kernel, rfl, by decide +kernel, by decide +kernel⟩
theorem ok_lines {f : Addr} {fd : FuncData} (F : Fun K "open_lines" "Routine.open_lines" sRLines f fd) (C : RCls K hR) : FnOk P w K mg base CX0 1 f fd ["self"] (spLines K hR) := by
  refine F.ok scRLines (fun vs H Q E h => ?_) (fun cdv A outer s H vs Q E hr h => ?_)
  · obtain ⟨r, v, d, rfl, _⟩ := h
    rfl
  · obtain ⟨r, v, d, rfl, R, st, few, k⟩ := h
    have hu := hu_of hr
    obtain ⟨dx, D1, D2, N1, N2, k1, k2, e, d1, t1, _⟩ := R.ex
    refine ⟨_, pss_one (ps_ret (pe_lock (pe_lc (own := [("path", 1), ("statement", 2)]) (g := gTup K 2 (gCons (gName 1) (gCons (gName 2) gNil))) (tt := tTest (tOp rEq (tOp (rIxT K) (tVar 2) (tC (.int 0))) (tC (.str "open")))) (te := tVar 1) rfl scRLines.nd (pi_itT (pe_fld (pv 0) rfl)) (blkOk_by (N := nLi) (sc := defScope sRLines) (by decide +kernel)) (fun _ _ _ _ _ => (pg_tup rfl (pgs_cons (pg_name (i := 1) scRLines.nd rfl (Or.inl rfl)) (pgs_cons (pg_name (i := 2) scRLines.nd rfl (Or.inl rfl)) pgs_nil)))) (fun _ _ _ _ _ => pts_one (pt_cmpR op_eq (pe_ix ix_tup (pv 2) pe_int (fun _ _ => rfl)) pe_str (nomark _))) (fun _ _ _ _ _ => pv 1)))), ?_⟩
    refine ⟨D1, .dT k1, d1, trivial, fun od => ?_⟩
    have hr1 : r ≠ D1 := fun z => by
      rw [z, d1] at e
      cases e
    have eL : upd H D1 (.frz od (.dT k1)) r = some (.ins hR dx (fsE v D1 D2 N1 N2)) := by
      rw [upd_ne hr1]
      exact e
    have dL : upd H D1 (.frz od (.dT k1)) D1 = some (.frz od (.dT k1)) := upd_same
    have tL : TabAt (ZS K) (upd H D1 (.frz od (.dT k1))) k1 (rowsD d) := t1.to fun _ _ h => Rp.updT d1 h
    have out : ∀ b o, H b = some o → b ≠ D1 → upd H D1 (.frz od (.dT k1)) b = some o := fun b o eb nb => by
      rw [upd_ne nb]
      exact eb
    have fr : ∀ {b : Addr}, upd H D1 (.frz od (.dT k1)) b = none → H b = none := fun {b} eb => by
      by_cases c : b = D1
      · rw [c, upd_same] at eb
        cases eb
      · rw [upd_ne c] at eb
        exact eb
    generalize upd H D1 (.frz od (.dT k1)) = HL at eL dL tL out fr ⊢
    have lk : k1.length = (rowsD d).length := Paired.length tL
    refine ⟨_, rfl, r, hR, dx, _, _, rfl, eL, C.cl, C.n2, rfl, D1, od, k1, rfl, dL, fun L nL => ?_⟩
    refine lc_it walk_itT (fun i H' => ∃ bs : List Addr, H' L = some (.lst (bs.map V.ref)) ∧ Same HL H' ∧ bs.length ≤ i ∧ Paired (PathP H') bs (((rowsD d).take i).filter openL)) ⟨[], upd_same, Same.new nL, Nat.le_refl _, .nil⟩ (fun i H' _ ⟨_, _, s, _⟩ => s _ _ dL) ?_ ?_
    · rintro i x Ha Hb hi ⟨bs, hL, sa, lb, pr⟩ ⟨T, q, ky, vv, ekv, rfl, nT, hq, rfl⟩
      have li : i < (rowsD d).length := by omega
      have er : (rowsD d)[i]? = some (rowsD d)[i] := List.getElem?_eq_getElem li
      obtain ⟨kv, ekv', ek, zs⟩ := TabAt.at_ tL er
      obtain rfl := Option.some.inj (ekv'.symm.trans ekv)
      have hst := st _ (List.getElem_mem li)
      have tk : ((rowsD d).take (i + 1)).filter openL = ((rowsD d).take i).filter openL ++ ([(rowsD d)[i]]).filter openL := by rw [List.take_add_one, er, List.filter_append]; rfl
      have zs : Rp K HL vv ((rowsD d)[i]).2.1 := zs
      rw [show ky = keyP ((rowsD d)[i]).1 from ek, pathV_key] at hq
      generalize (rowsD d)[i] = qq at hst tk zs hq
      have sT := Same.new (o := .tup [.ref q, vv]) nT
      have hT : upd Ha T (.tup [.ref q, vv]) T = some (.tup [.ref q, vv]) := upd_same
      have hL2 := sT _ _ hL
      have hq2 := sT _ _ hq
      have s2 := sa.trans sT
      have pr2 := PathsP.keep sT pr
      generalize upd Ha T (.tup [.ref q, vv]) = H2 at hT hL2 hq2 s2 pr2 ⊢
      refine ⟨T, [.ref q, vv], rfl, SqT.of hT, rfl, .ref q, [vv], rfl, vv, [], rfl, rfl, rfl, ?_⟩
      obtain ⟨g, lr, _, _, el⟩ := stmt_inv hst
      have zs2 := zs.keep s2
      rw [el] at zs2
      obtain ⟨pS, xS, rfl, hS, rS⟩ := zs2.tup_inv
      obtain ⟨v0, x0, r0⟩ := rS.get (i := 0) rfl
      cases r0
      refine ⟨_, rfl, pS, _, _, _, rfl, rfl, SqT.of hS, at_of (j := 0) rfl x0, rfl, _, rfl, ?_⟩
      by_cases c : headB qq.2.1 = "open"
      · refine ite2 (fun _ => ?_) (fun z => absurd (decide_eq_true (by rw [c])) z)
        have eo : [qq].filter openL = [qq] := by
          rw [List.filter_cons_of_pos (by show decide (headB qq.2.1 = "open") = true; exact decide_eq_true c)]
          rfl
        rw [eo] at tk
        have eN : upd H2 L (.lst (bs.map V.ref ++ [.ref q])) = upd H2 L (.lst ((bs ++ [q]).map V.ref)) := by rw [List.map_append]; rfl
        refine ⟨_, rfl, _, hL2, small1000 (by rw [List.length_map]; omega), bs ++ [q], ?_, fun b o eb => ?_, ?_, ?_⟩
        · rw [eN, upd_same]
        · rw [upd_ne (ne_of_none eb nL)]
          exact s2 _ _ eb
        · rw [List.length_append, List.length_singleton]
          omega
        · rw [tk]
          exact PathsP.append (PathsP.updL hL2 pr2) (.cons (show L2.upd H2 L _ q = _ by rw [upd_ne (fun z => by rw [z, hL2] at hq2; cases hq2)]; exact hq2) .nil)
      · refine ite2 (fun z => absurd (V.str.inj (of_decide_eq_true z)) c) fun _ => ?_
        have eo : [qq].filter openL = [] := by
          rw [List.filter_cons_of_neg (by show ¬ decide (headB qq.2.1 = "open") = true; rw [decide_eq_false c]; decide)]
          rfl
        rw [eo, List.append_nil] at tk
        exact ⟨bs, hL2, s2, Nat.le_succ_of_le lb, by rw [tk]; exact pr2⟩
    · rintro H2 ⟨bs, hL, s2, lb, pr⟩
      rw [lk, List.take_length] at pr
      refine ⟨s2 _ _ dL, ?_⟩
      have hD2 := s2 _ _ dL
      have nLD : L ≠ D1 := fun z => by
        rw [z, dL] at nL
        cases nL
      refine k bs L _ (fun b o eb => ?_) (fr nL) (by rw [upd_ne nLD]; exact hL) (PathsP.upd (fun z => z) hD2 pr)
      by_cases c : b = D1
      · subst c
        rw [upd_same]
        exact d1.symm.trans eb
      · rw [upd_ne c]
        exact s2 _ _ (out b o eb c)
end
end Oh
namespace Oh
open PySem PySem.Spec PyProof.Rows L2 PpSet
theorem portsW_eq {b : DT} {rs : List WRow} (h : (rowsD b).map pr2 = rs.map pw2) : allT portsB (rowsD b) = portsW rs := by
  unfold portsW
  show ((rowsD b).map fun r => portsB r.2.1).flatten = _
  have e := congrArg (List.map fun q : List Nat × DT => portsB q.2) h
  rw [List.map_map, List.map_map] at e
  exact congrArg List.flatten e
theorem pathsW_eq {b : DT} {rs : List WRow} (h : (rowsD b).map pr2 = rs.map pw2) : (rowsD b).map (·.1) = rs.map (·.1) := by
  have e := congrArg (List.map fun q : List Nat × DT => q.1) h
  rw [List.map_map, List.map_map] at e
  exact e
theorem linesW_eq : ∀ {ls : List LRow} {rs : List WRow}, ls.map pr2 = rs.map pw2 → (ls.filter openL).map (·.1) = (rs.filter openW).map (·.1)
  | [], [], _ => rfl
  | [], _ :: _, h => by cases h
  | _ :: _, [], h => by cases h
  | a :: ls, b :: rs, h => by
    rw [List.map_cons, List.map_cons] at h
    obtain ⟨h1, h2⟩ := List.cons.inj h
    have ih := linesW_eq h2
    have e1 : a.1 = b.1 := congrArg Prod.fst h1
    have e2 : a.2.1 = b.2.1 := congrArg Prod.snd h1
    by_cases c : headB a.2.1 = "open"
    · rw [List.filter_cons_of_pos (show openL a = true from decide_eq_true c), List.filter_cons_of_pos (show openW b = true by show decide (headB b.2.1 = "open") = true; rw [← e2]; exact decide_eq_true c), List.map_cons, List.map_cons, ih, e1]
    · rw [List.filter_cons_of_neg (show ¬ openL a = true by show ¬ decide (headB a.2.1 = "open") = true; rw [decide_eq_false c]; decide), List.filter_cons_of_neg (show ¬ openW b = true by show ¬ decide (headB b.2.1 = "open") = true; rw [← e2, decide_eq_false c]; decide), ih]
theorem PathsP.w {H : Hp} : ∀ {bs : List Addr} {qs : List LRow}, Paired (PathP H) bs qs → PathsW H bs (qs.map (·.1))
  | _, _, .nil => .nil
  | _, _, .cons h t => .cons h (PathsP.w t)
def spTold5 (K : PySem.W.Frag) (hR : Addr) : Sp := fun vs H Q _ => ∃ r v d rs, vs = [.ref r] ∧ RowsR K H hR r v d rs ∧ (∀ q ∈ rs, stmtB q.2.1 = true) ∧ rs.length ≤ 300 ∧
  ∀ p N P Pa Li ns ps bs ls H', TolA H H' p N P Pa Li rs ns ps bs ls → Q (.ref p) H'
section
variable {P : Program} {w : World} {K : PySem.W.Frag} {mg : Str → Option Value} {base : Heap} {hR : Addr}
theorem scTo5 : FnScope ["_law_routine"] ["_law_routine"] (defScope lTold) := ⟨rfl, rfl, rfl, by decide +kernel, rfl, by decide +kernel, by decide +kernel⟩
theorem ok_told5 {f fN fP fA fL : Addr} {fd fdN fdP fdA fdL : FuncData} (F : Fun K "_law_told" "_law_told" lTold f fd) (C : RCls K hR)
    (GN : FnOk P w K mg base CX0 1 fN fdN ["self"] (spAsc K hR namesB)) (aN : Meth K hR "names" fN) (bN : Binds K fdN ["self"] [])
    (GP : FnOk P w K mg base CX0 1 fP fdP ["self"] (spAsc K hR portsB)) (aP : Meth K hR "ports" fP) (bP : Binds K fdP ["self"] [])
    (GA : FnOk P w K mg base CX0 1 fA fdA ["self"] (spPaths K hR)) (aA : Meth K hR "paths" fA) (bA : Binds K fdA ["self"] [])
    (GL : FnOk P w K mg base CX0 1 fL fdL ["self"] (spLines K hR)) (aL : Meth K hR "open_lines" fL) (bL : Binds K fdL ["self"] []) : FnOk P w K mg base CX0 2 f fd ["_law_routine"] (spTold5 K hR) := by
  refine F.ok scTo5 (fun vs H Q E h => ?_) (fun cdv A outer s H vs Q E hr h => ?_)
  · obtain ⟨r, v, d, rs, rfl, _⟩ := h
    rfl
  · obtain ⟨r, v, d, rs, rfl, RR, hst, few, k⟩ := h
    refine ⟨_, (pss_one (ps_ret (pe_lst (pa_cons (pe_meth0 (pv 0) C.cl aN GN hr bN .nil pass0) (pa_cons (pe_meth0 (pv 0) C.cl aP GP hr bP .nil pass0) (pa_cons (pe_meth0 (pv 0) C.cl aA GA hr bA .nil pass0) (pa_cons (pe_meth0 (pv 0) C.cl aL GL hr bL .nil pass0) pa_nil))))))), ?_⟩
    have R := RR.R
    obtain ⟨dx, D1, D2, N1, N2, k1, k2, eI, _⟩ := id R.ex
    refine ⟨_, rfl, r, dx, _, rfl, eI, rfl, r, v, d, rfl, R, fun ns N n1 n2 n3 nN => ?_⟩
    have sa := Same.new (o := .lst (ns.map V.str)) nN
    have eN : upd H N (.lst (ns.map V.str)) N = some (.lst (ns.map V.str)) := upd_same
    generalize upd H N (.lst (ns.map V.str)) = H1 at sa eN ⊢
    refine ⟨_, rfl, r, dx, _, rfl, sa _ _ eI, rfl, r, v, d, rfl, R.keep sa, fun ps P' p1 p2 p3 nP => ?_⟩
    have sb := Same.new (o := .lst (ps.map V.str)) nP
    have eP : upd H1 P' (.lst (ps.map V.str)) P' = some (.lst (ps.map V.str)) := upd_same
    generalize upd H1 P' (.lst (ps.map V.str)) = H2 at sb eP ⊢
    have s2 := sa.trans sb
    refine ⟨_, rfl, r, dx, _, rfl, s2 _ _ eI, rfl, r, v, d, rfl, R.keep s2, fun bs A' a1 nA => ?_⟩
    have sc := Same.new (o := .lst (bs.map V.ref)) nA
    have eA : upd H2 A' (.lst (bs.map V.ref)) A' = some (.lst (bs.map V.ref)) := upd_same
    have a1 : Paired (PathP H2) bs (rowsD d) := a1
    have a2 := PathsP.keep sc a1
    generalize upd H2 A' (.lst (bs.map V.ref)) = H3 at sc eA a2 ⊢
    have s3 := s2.trans sc
    have lr : (rowsD d).length = rs.length := by
      have := congrArg List.length RR.e
      rw [List.length_map, List.length_map] at this
      exact this
    refine ⟨_, rfl, r, dx, _, rfl, s3 _ _ eI, rfl, r, v, d, rfl, R.keep s3, fun q hq => ?_, by omega, fun ls L' H4 sd nL eL l1 => ?_⟩
    · obtain ⟨x, hx, e1, e2⟩ := RR.back hq
      rw [← e2]
      exact hst x hx
    have s4 := s3.trans sd
    refine ⟨by show 4 ≤ sizeLine; decide, fun p np => ?_⟩
    have se := Same.new (o := .lst [.ref N, .ref P', .ref A', .ref L']) np
    have ne : ∀ {a b : Addr} {o : HO} {G : Hp}, G a = some o → G b = none → a ≠ b := fun {a b o G} h1 h2 z => by
      rw [z, h2] at h1
      cases h1
    have eN2 := sb _ _ eN
    have eN3 := sc _ _ eN2
    have eN4 := sd _ _ eN3
    have eP3 := sc _ _ eP
    have eP4 := sd _ _ eP3
    have eA4 := sd _ _ eA
    refine k p N P' A' L' ns ps bs ls _ ⟨s4.trans se, upd_same, se _ _ eN4, se _ _ eP4, se _ _ eA4, se _ _ eL, ?_, ?_, ?_, ?_, ?_, ?_⟩
    · intro a ha
      simp only [List.mem_cons, List.not_mem_nil, or_false] at ha
      rcases ha with rfl | rfl | rfl | rfl | rfl
      · exact nN
      · exact sa.free nP
      · exact s2.free nA
      · exact s3.free nL
      · exact s4.free np
    · simp only [List.nodup_cons, List.mem_cons, List.not_mem_nil, or_false, not_or, not_false_eq_true, List.nodup_nil, and_true]
      exact ⟨⟨ne eN nP, ne eN2 nA, ne eN3 nL, ne eN4 np⟩, ⟨ne eP nA, ne eP3 nL, ne eP4 np⟩, ⟨ne eA nL, ne eA4 np⟩, ne eL np⟩
    · rw [← names_eq RR.e]
      exact ⟨n1, n2, n3⟩
    · rw [← portsW_eq RR.e]
      exact ⟨p1, p2, p3⟩
    · rw [← pathsW_eq RR.e]
      exact PathsW.keep (sd.trans se) (PathsP.w a2)
    · rw [← linesW_eq RR.e]
      exact PathsW.keep se (PathsP.w l1)
end
end Oh
namespace Oh
open PySem PySem.Spec PyProof.Rows L2 PpSet
/-! o.m(e, ..) within a try -/
def tMethV (C : Addr) (m : Str) (sp : Sp) (E : L2.St → XK) (ta : TE) (t : TA) : TE := fun σ H Q => ta σ H fun x H1 => ∃ a dx fs, x = .ref a ∧ H1 a = some (.ins C dx fs) ∧ fs.lookup m = none ∧ t σ H1 fun vs H2 => sp (.ref a :: vs) H2 Q (E σ)
section
variable {X : Cx} {CX : CXT} {k : Nat} {f C : Addr} {fd : FuncData} {ps : List Str} {sp : Sp} {E : L2.St → XK} {m : Str} {pos apos : Pos} {e o : Expr} {es : List Expr} {ta : TE} {t : TA}
theorem pe_methV {pl : Sem Bool} (he : PE X o ta) (c : Cls X.K C) (hm : Meth X.K C m f) (F : FnOk X.prog X.w X.K X.mg X.base CX k f fd ps sp) (room : Room k X.A) (hb : Binds X.K fd ps []) (hx : ∀ σ, PassesAt CX X σ (E σ)) (ha : PA X (e :: es) t)
    (hs : starEach (e :: es) X.env = (false, eval e X.env) :: starEach es X.env := by rfl) (hp : (backTo pos (starEach es X.env)).any (·.1) = false := by rfl)
    (ht : eval (.Call (.Attribute o m apos) (e :: es) [] pos) X.env = (do
      let ov ← eval o X.env
      standAt apos.atName
      let (f, first) ← holding [ov] (getMethod ov m pl)
      callWith pos f first (backTo pos (starEach (e :: es) X.env)) (backToKw pos (keywordEach [] X.env))) := by rfl) :
    PE X (.Call (.Attribute o m apos) (e :: es) [] pos) (tMethV C m sp E ta t) := by
  constructor
  intro pins s σ H Q J h
  refine PySem.W.methodCall_KW (pl := pl) (thn (he.run pins s σ H _ J h) fun u s1 got => ?_) ht
  obtain ⟨x, H1, J1, rx, a, dx, fs, rfl, ea, lk, q⟩ := got
  cases (show u = Value.ref a from rx)
  refine getmeth_ok J1 ea c hm lk (PySem.W.callWith_K (first := [.ref a]) (h₀ := X.base) J.ok.mod.kin hm.kp (thn (ha.run pos pins s1 σ H1 _ J1 q) fun us s2 got => ?_) hs hp)
  obtain ⟨vs, H2, J2, rv, q2⟩ := got
  exact ⟨J2.kIn, run_fnSD (us := .ref a :: us) (vs := .ref a :: vs) F room hb .nil (hx σ) J2 (.cons rfl rv) (by rw [List.append_nil]; exact q2)⟩
end
def spRef5 (K : PySem.W.Frag) (hR : Addr) : Sp := fun vs H Q _ => ∃ r x v d dx, vs = [.ref r, x] ∧ RoutD K H hR r v d ∧ Rp K H x dx ∧ (∀ q ∈ rowsD d, dx ≠ pathD q.1) ∧ ∀ L H', Same H H' → H' L = some (.lst [x]) → Q (.ref L) H'
section
variable {P : Program} {w : World} {K : PySem.W.Frag} {mg : Str → Option Value} {base : Heap} {hR hNP f1 : Addr}
abbrev nRf5 : List Str := ["_law_routine", "_law_value", "_law_found", "e"]
theorem scRf5 : FnScope nRf5 ["_law_routine", "_law_value"] (defScope lRefused) := ⟨rfl, rfl, rfl, by decide +kernel, rfl, by decide +kernel, by decide +kernel⟩
theorem ok_ref5 {f fS : Addr} {fd fdS : FuncData} (F : Fun K "_law_refused" "_law_refused" lRefused f fd) (C : RCls K hR) (mN : mg "NoPath" = some (.ref hNP)) (TE : ErrC K f1 hNP) (te : PySem.W.exmOne K (.ref hNP) (.ref hNP) = some true)
    (GS : FnOk P w K mg base (L2.CX P w) 3 fS fdS ["self", "path"] (spStatement K hR hNP)) (aS : Meth K hR "statement" fS) (bS : Binds K fdS ["self", "path"] []) : FnOk P w K mg base CX0 4 f fd ["_law_routine", "_law_value"] (spRef5 K hR) := by
  refine F.ok scRf5 (fun vs H Q E h => ?_) (fun cdv A outer s H vs Q E hr h => ?_)
  · obtain ⟨r, x, v, d, dx, rfl, _⟩ := h
    rfl
  · obtain ⟨r, x, v, d, dx, rfl, R, rx, no, k⟩ := h
    refine ⟨_, (pss_cons (ps_set (i := 2) scRf5.nd rfl (Or.inl rfl) pe_non)
      (pss_cons (ps_try_as (i := 3) (tb := fun W => tDrop (tMethV hR "statement" (spStatement K hR hNP) (WE W) (tVar 0) (tCons (tVar 1) tNil))) (ts := fun a cls d => tAsg (tLst (tCons (tXf a cls d hNP "what" (tVar 3)) tNil)) (gName 2)) (Wout := fun _ _ _ _ => False) rfl rfl scRf5.nd rfl rfl ⟨rfl, by decide, Or.inl mN⟩ takes0
          (fun W pn xe tk _ => pss_one (ps_expr (by exact (pe_methV (pv 0) C.cl aS GS (hr.mono (by decide)) bS (fun σ => passAt tk σ) (by exact (pa_cons (pv 1) pa_nil))))))
          (fun a oe cls d pn hz hf => pss_one (ps_set (i := 2) scRf5.nd rfl (Or.inl rfl) (by exact (pe_lst (pa_cons (pe_xf TE.xf TE.no hz hf (pv 3)) pa_nil))))))
      (pss_one (ps_ret (pv 2))))), ?_⟩
    obtain ⟨dx', D1, D2, N1, N2, k1, k2, eI, _⟩ := R.ex
    refine ⟨_, rfl, r, dx', _, rfl, eI, rfl, _, rfl, r, v, d, x, dx, rfl, R, rx, fun q hq e => absurd e (no q hq), fun _ e H2 s2 he => ?_⟩
    refine ⟨true, te, fun _ a0 _ => ?_, fun z => Bool.noConfusion z⟩
    refine ⟨_, rfl, rfl, rfl, e, _, x, rfl, he, (by simp [List.lookup]), (by show 1 ≤ sizeLine; decide), fun L nL => ?_⟩
    exact ⟨_, rfl, k L _ (s2.trans (Same.new nL)) upd_same⟩
end
end Oh
namespace Oh
open PySem PySem.Spec PyProof.Rows L2 PpSet
/-! values of any kind, new ones -/
def EvT (K : PySem.W.Frag) (te : TE) (σ : L2.St) (H : Hp) (n : Nat) : Prop := ∀ H1, Same H H1 → ∀ Q : VK, (∀ p xs l H', Same H1 H' → H' p = some (.tup xs) → RpAll K H' xs l → l.length ≤ n → Q (.ref p) H') → te σ H1 Q
def EvX (K : PySem.W.Frag) (te : TE) (σ : L2.St) (H : Hp) : Prop := ∀ H1, Same H H1 → ∀ Q : VK, (∀ v d H', Same H1 H' → Rp K H' v d → Q v H') → te σ H1 Q
def EvXA (K : PySem.W.Frag) (ta : TA) (σ : L2.St) (H : Hp) (n : Nat) : Prop := ∀ H1, Same H H1 → ∀ Q : List V → Hp → Prop, (∀ vs ds H', Same H1 H' → RpAll K H' vs ds → vs.length = n → Q vs H') → ta σ H1 Q
section
variable {K : PySem.W.Frag} {σ : L2.St} {H : Hp}
theorem evt_var {i : Nat} {p : Addr} {xs : List V} {l : List DT} {n : Nat} (hp : H p = some (.tup xs)) (ra : RpAll K H xs l) (e : σ[i]? = some (some (.ref p))) (hn : l.length ≤ n) : EvT K (tVar i) σ H n := fun H1 s Q k => ⟨_, e, k p xs l H1 (Same.refl _) (s _ _ hp) (ra.keep s) hn⟩
theorem evt_cat {t1 t2 : TE} {n m : Nat} (h1 : EvT K t1 σ H n) (h2 : EvT K t2 σ H m) (hl : n + m ≤ 1000) : EvT K (tOp (rCatA K) t1 t2) σ H (n + m) := fun H1 s Q k =>
  h1 H1 s _ fun p xs l H2 s2 hp ra ln => h2 H2 (s.trans s2) _ fun q ys l' H3 s3 hq rb lm => by
    have hp := s3 _ _ hp
    have ra := ra.keep s3
    have la := ra.len
    have lb := rb.len
    refine ⟨p, q, xs, ys, rfl, rfl, SqT.of hp, SqT.of hq, small9 (by omega), fun z => ?_, fun _ z => ?_, fun _ _ z nz => ?_⟩
    · exact k q ys l' H3 (s2.trans s3) hq rb (by omega)
    · exact k p xs l H3 (s2.trans s3) hp ra (by omega)
    · exact k z _ (l ++ l') _ ((s2.trans s3).trans (Same.new nz)) upd_same ((ra.append rb).keep (Same.new nz)) (by rw [List.length_append]; omega)
theorem sl_any {p : Addr} {xs : List V} {l : List DT} {lo hi : Option Int} {Q : VK} (hp : H p = some (.tup xs)) (ra : RpAll K H xs l) (k : ∀ q ys l' H', Same H H' → H' q = some (.tup ys) → RpAll K H' ys l' → l'.length ≤ l.length → Q (.ref q) H') : rSlA K (.ref p) lo hi H Q := by
  refine ⟨p, _, rfl, SqT.of hp, fun z => k p xs l H (Same.refl _) hp ra (Nat.le_refl _), fun _ q nq => ?_⟩
  refine k q _ _ _ (Same.new nq) upd_same ((((ra.drop _).take _).keep (Same.new nq))) ?_
  rw [List.length_take, List.length_drop]
  omega
theorem evt_sl {t1 : TE} {n : Nat} {lo hi : Option Int} {tl th : TO} (h1 : EvT K t1 σ H n) (hlo : ∀ H1 Q, Same H H1 → Q lo H1 → tl σ H1 Q) (hhi : ∀ H1 Q, Same H H1 → Q hi H1 → th σ H1 Q) : EvT K (tSl (rSlA K) t1 tl th) σ H n := fun H1 s Q k =>
  h1 H1 s _ fun p xs l H2 s2 hp ra ln => hlo H2 _ (s.trans s2) (hhi H2 _ (s.trans s2) (sl_any hp ra fun q ys l' H3 s3 hq rb lm => k q ys l' H3 (s2.trans s3) hq rb (by omega)))
theorem evt_tup {ta : TA} {n : Nat} (h : EvXA K ta σ H n) (hl : n ≤ 1000 := by exact Nat.le_of_ble_eq_true rfl) : EvT K (tTup ta) σ H n := fun H1 s Q k =>
  h H1 s _ fun vs ds H2 s2 ra ln => ⟨by rw [ln]; exact Nat.le_trans hl (by decide), fun p np => k p vs ds _ (s2.trans (Same.new np)) upd_same (ra.keep (Same.new np)) (by rw [← ra.len]; omega)⟩
theorem evx_t {te : TE} {n : Nat} (h : EvT K te σ H n) : EvX K te σ H := fun H1 s Q k => h H1 s _ fun p xs l H2 s2 hp ra _ => k _ _ H2 s2 (.tup hp ra)
theorem evx_of {te : TE} {d : DT} (h : Ev K te σ H d) : EvX K te σ H := fun H1 s Q k => h H1 s _ fun v H2 s2 r => k v d H2 s2 r
theorem evx_int {i : Int} : EvX K (tC (.int i)) σ H := evx_of ev_int
theorem evx_non : EvX K (tC .non) σ H := fun H1 _ Q k => k _ _ H1 (Same.refl _) .non
theorem evxa_nil : EvXA K tNil σ H 0 := fun H1 _ Q k => k [] [] H1 (Same.refl _) .nil rfl
theorem evxa_cons {te : TE} {ta : TA} {n : Nat} (h : EvX K te σ H) (t : EvXA K ta σ H n) : EvXA K (tCons te ta) σ H (n + 1) := fun H1 s Q k =>
  h H1 s _ fun v d H2 s2 r => t H2 (s.trans s2) _ fun vs ds H3 s3 ra ln => k (v :: vs) (d :: ds) H3 (s2.trans s3) (.cons (r.keep s3) ra) (by rw [List.length_cons, ln])
theorem evx_lst {ta : TA} {n : Nat} (h : EvXA K ta σ H n) (hl : n ≤ 1000 := by exact Nat.le_of_ble_eq_true rfl) : EvX K (tLst ta) σ H := fun H1 s Q k =>
  h H1 s _ fun vs ds H2 s2 ra ln => ⟨by rw [ln]; exact Nat.le_trans hl (by decide), fun p np => k _ _ _ (s2.trans (Same.new np)) (.lst upd_same)⟩
end
/-- a list of values of any kind -/
structure OddL (K : PySem.W.Frag) (H : Hp) (L : Addr) (n : Nat) : Prop where
  ex : ∃ xs ds, H L = some (.lst xs) ∧ RpAll K H xs ds ∧ xs.length ≤ n
theorem OddL.cat {K : PySem.W.Frag} {σ : L2.St} {H : Hp} {L : Addr} {n m i : Nat} {ta : TA} {Q : VK} (h : OddL K H L n) (hl : n + m ≤ 1000) (e : σ[i]? = some (some (.ref L))) (t : EvXA K ta σ H m) (k : ∀ L' H', Same H H' → OddL K H' L' (n + m) → Q (.ref L') H') : tOp (rCat) (tVar i) (tLst ta) σ H Q := by
  obtain ⟨xs, ds, h1, h2, h3⟩ := h.ex
  refine ⟨_, e, t H (Same.refl _) _ fun vs es H2 s2 ra ln => ⟨by rw [ln]; exact Nat.le_trans (by omega : m ≤ 1000) (by decide), fun p np => ?_⟩⟩
  have s3 := s2.trans (Same.new (o := .lst vs) np)
  refine ⟨L, p, xs, vs, rfl, rfl, s3 _ _ h1, upd_same, Nat.le_trans (by omega : xs.length + vs.length ≤ 1000) (by decide), fun z nz => ?_⟩
  have s4 := s3.trans (Same.new (o := .lst (xs ++ vs)) nz)
  exact k z _ s4 ⟨_, _, upd_same, (h2.keep s4).append (ra.keep ((Same.new np).trans (Same.new nz))), by rw [List.length_append]; omega⟩
theorem seq5 {te : TE} {i : Nat} {rest : TS} {D : Ends} {σ : L2.St} {H : Hp} (h : te σ H fun v H1 => rest D (σ.set i (some v)) H1) : tSeq (tAsg te (gName i)) rest D σ H := h
theorem lst_go {K : PySem.W.Frag} {σ : L2.St} {H : Hp} {ta : TA} {n : Nat} {Q : VK} (t : EvXA K ta σ H n) (hl : n ≤ 1000) (k : ∀ L H', Same H H' → OddL K H' L n → Q (.ref L) H') : tLst ta σ H Q :=
  t H (Same.refl H) _ fun vs ds H2 s2 ra ln => ⟨by rw [ln]; exact Nat.le_trans hl (by decide), fun p np => k p _ (s2.trans (Same.new np)) ⟨_, _, upd_same, ra.keep (Same.new np), Nat.le_of_eq ln⟩⟩
def spOdd5 (K : PySem.W.Frag) : Sp := fun vs H Q _ => ∃ a c p1 p2 w1 w2, vs = [.ref a, .ref p1, .ref p2] ∧ Src H a c ∧ H p1 = some (.tup (pathV w1)) ∧ H p2 = some (.tup (pathV w2)) ∧ w1 ≠ [] ∧ w1.length ≤ 100 ∧ w2.length ≤ 100 ∧ (∀ x ∈ w1, x ≤ 12) ∧
  ∀ L H', Drw a c H H' → OddL K H' L 100 → Q (.ref L) H'
theorem digits_len : ∀ n : Nat, n ≤ 12 → (toString (n : Int) : Str).length ≤ 1000 := by
  intro n hn
  have : ∀ n : Fin 13, (toString ((n : Nat) : Int) : Str).length ≤ 1000 := by decide +kernel
  exact this ⟨n, by omega⟩
theorem digits_log : ∀ n : Nat, n ≤ 12 → (n : Int).natAbs.log2 < 1920 := by
  intro n hn
  have : ∀ n : Fin 13, ((n : Nat) : Int).natAbs.log2 < 1920 := by decide +kernel
  exact this ⟨n, by omega⟩
section
variable {P : Program} {w : World} {K : PySem.W.Frag} {mg : Str → Option Value} {base : Heap}
abbrev nOd5 : List Str := ["_law_source_here", "_law_path", "_law_other", "_law_at", "_law_found"]
abbrev p3d : List Str := ["_law_source_here", "_law_path", "_law_other"]
theorem scOd5 : FnScope nOd5 p3d (defScope lOddPaths) := ⟨rfl, rfl, rfl, by decide +kernel, rfl, by decide +kernel, by decide +kernel⟩
theorem ok_odd5 {f fD : Addr} {fd fdD : FuncData} (F : Fun K "_law_odd_paths" "_law_odd_paths" lOddPaths f fd) (T : TxtO mg) (TI : TxtI mg)
    (GD : FnOk P w K mg base CX0 2 fD fdD ["_law_source_here", "_law_many"] spDraw) (kD : PySem.W.keepIn K (.ref fD) = true) (bD : Binds K fdD ["_law_source_here", "_law_many"] []) (mD : mg "_law_draw" = some (.ref fD)) : FnOk P w K mg base CX0 3 f fd p3d (spOdd5 K) := by
  refine F.ok scOd5 (fun vs H Q E h => ?_) (fun cdv A outer s H vs Q E hr h => ?_)
  · obtain ⟨a, c, p1, p2, w1, w2, rfl, _⟩ := h
    rfl
  · obtain ⟨a, c, p1, p2, w1, w2, rfl, S, hp1, hp2, hw, l1, l2, sm, k⟩ := h
    refine ⟨_, (pss_cons (ps_set (i := 3) scOd5.nd rfl (Or.inl rfl) (pe_call GD hr (by rfl) mD kD bD .nil pass0 (pa_cons (pv 0) (pa_cons (pe_callB call_len_seq (by rfl) T.len boot_len (pa_cons (pv 1) pa_nil)) pa_nil))))
      (pss_cons (ps_set (i := 4) scOd5.nd rfl (Or.inl rfl) (pe_lst (pa_cons (pe_op op_catA (pv 1) (pe_tup (pa_cons pe_int pa_nil))) (pa_cons (pe_slice sl_tupA (pv 1) po_none (po_some (pe_un un_neg pe_int))) (pa_cons (pe_op op_catA (pv 1) (pe_tup (pa_cons pe_int (pa_cons pe_int pa_nil)))) (pa_cons (pe_op op_catA (pv 1) (pe_tup (pa_cons pe_int (pa_cons pe_int pa_nil)))) (pa_cons (pe_op op_catA (pe_op op_catA (pe_slice sl_tupA (pv 1) po_none (po_some (pv 3))) (pe_tup (pa_cons (pe_op op_add (pe_ix ix_tup (pv 1) (pv 3) (fun _ _ => rfl)) pe_int) pa_nil))) (pe_slice sl_tupA (pv 1) (po_some (pe_op op_add (pv 3) pe_int)) po_none)) pa_nil)))))))
      (pss_cons (ps_set (i := 4) scOd5.nd rfl (Or.inl rfl) (pe_op op_cat (pv 4) (pe_lst (pa_cons (pe_op op_catA (pe_op op_catA (pe_slice sl_tupA (pv 1) po_none (po_some (pv 3))) (pe_tup (pa_cons (pe_un un_neg pe_int) pa_nil))) (pe_slice sl_tupA (pv 1) (po_some (pe_op op_add (pv 3) pe_int)) po_none)) (pa_cons (pe_op op_catA (pv 1) (pv 2)) (pa_cons (pe_callTy call_list_of (by rfl) TI.list bb_list (pa_cons (pv 1) pa_nil)) (pa_cons pe_non (pa_cons pe_str (pa_cons (pe_callTy call_str_int (by rfl) TI.str bb_str (pa_cons (pe_ix ix_tup (pv 1) pe_int (fun _ _ => rfl)) pa_nil)) (pa_cons (pe_ix ix_tup (pv 1) pe_int (fun _ _ => rfl)) (pa_cons pe_int pa_nil)))))))))))
      (pss_cons (ps_set (i := 4) scOd5.nd rfl (Or.inl rfl) (pe_op op_cat (pv 4) (pe_lst (pa_cons pe_dnewK (pa_cons (pe_lst pa_nil) (pa_cons (pe_tup pa_nil) (pa_cons (pe_tup (pa_cons (pv 1) pa_nil)) (pa_cons (pe_tup (pa_cons pe_non pa_nil)) (pa_cons (pe_op op_catA (pe_op op_catA (pe_slice sl_tupA (pv 1) po_none (po_some (pv 3))) (pe_tup (pa_cons pe_str pa_nil))) (pe_slice sl_tupA (pv 1) (po_some (pe_op op_add (pv 3) pe_int)) po_none)) (pa_cons (pe_op op_catA (pe_slice sl_tupA (pv 1) po_none (po_some (pv 3))) (pe_tup (pa_cons (pe_op op_pow pe_int pe_int) pa_nil))) pa_nil))))))))))
      (pss_cons (ps_set (i := 4) scOd5.nd rfl (Or.inl rfl) (pe_op op_cat (pv 4) (pe_lst (pa_cons (pe_op op_catA (pe_op op_catA (pe_slice sl_tupA (pv 1) po_none (po_some (pv 3))) (pe_tup (pa_cons (pe_cmpR op_eq (pe_ix ix_tup (pv 1) (pv 3) (fun _ _ => rfl)) pe_int (nomark _)) pa_nil))) (pe_slice sl_tupA (pv 1) (po_some (pe_op op_add (pv 3) pe_int)) po_none)) (pa_cons (pe_op op_catA (pe_slice sl_tupA (pv 1) po_none (po_some (pv 3))) (pe_tup (pa_cons (pe_cmpR op_ne (pe_ix ix_tup (pv 1) (pv 3) (fun _ _ => rfl)) pe_int (nomark _)) pa_nil))) (pa_cons (pe_tup (pa_cons (pe_tup pa_nil) (pa_cons pe_int pa_nil))) (pa_cons (pe_tup (pa_cons (pe_lst pa_nil) pa_nil)) pa_nil)))))))
      (pss_one (ps_ret (pv 4)))))))), ?_⟩
    have lv : (pathV w1).length = w1.length := by rw [List.length_map]
    have pos : 0 < w1.length := List.length_pos_iff.mpr hw
    refine seq5 ?_
    refine ⟨_, rfl, _, rfl, p1, pathV w1, rfl, .inr (SqT.of hp1), a, c, _, rfl, S, by omega, log2_small (by omega) (by omega), fun g H1 g0 g1 S1 K1 => ?_⟩
    have D1 : Drw a c H H1 := ⟨K1, S1⟩
    have hp1 := D1.at S hp1 (fun _ => nofun)
    have hp2 := D1.at S hp2 (fun _ => nofun)
    obtain ⟨at_, rfl⟩ : ∃ n : Nat, g = (n : Int) := ⟨g.toNat, by omega⟩
    have lat : at_ < w1.length := by omega
    have eat : w1[at_]? = some w1[at_] := List.getElem?_eq_getElem lat
    have e0 : w1[0]? = some w1[0] := List.getElem?_eq_getElem pos
    have vat : (pathV w1)[at_]? = some (.int ((w1[at_] : Nat) : Int)) := by rw [List.getElem?_map, eat]; rfl
    have v0 : (pathV w1)[0]? = some (.int ((w1[0] : Nat) : Int)) := by rw [List.getElem?_map, e0]; rfl
    have s0 := sm _ (List.getElem_mem pos)
    generalize w1[at_] = n1 at vat
    generalize w1[0] = n0 at v0 s0
    have P1 : ∀ {σ : L2.St} {H2 : Hp}, Same H1 H2 → σ[1]? = some (some (.ref p1)) → EvT K (tVar 1) σ H2 100 := fun {σ H2} s e => evt_var (s _ _ hp1) (pathA w1) e (by rw [List.length_map]; exact l1)
    have P2 : ∀ {σ : L2.St} {H2 : Hp}, Same H1 H2 → σ[2]? = some (some (.ref p2)) → EvT K (tVar 2) σ H2 100 := fun {σ H2} s e => evt_var (s _ _ hp2) (pathA w2) e (by rw [List.length_map]; exact l2)
    have mid : ∀ {σ : L2.St} {H2 : Hp} {te : TE}, Same H1 H2 → σ[1]? = some (some (.ref p1)) → σ[3]? = some (some (.int (at_ : Int))) → EvX K te σ H2 → EvX K (tOp (rCatA K) (tOp (rCatA K) (tSl (rSlA K) (tVar 1) tNoPart (tPart (tVar 3))) (tTup (tCons te tNil))) (tSl (rSlA K) (tVar 1) (tPart (tOp (rI0 fun i j => .int (i + j)) (tVar 3) (tC (.int 1)))) tNoPart)) σ H2 := fun {σ H2 te} s e1 e3 h =>
      evx_t (evt_cat (evt_cat (evt_sl (P1 s e1) (fun _ _ _ q => q) (fun _ _ _ q => ⟨_, e3, _, rfl, q⟩)) (evt_tup (evxa_cons h evxa_nil)) (by decide)) (evt_sl (P1 s e1) (fun _ _ _ q => ⟨_, e3, _, _, rfl, rfl, _, rfl, q⟩) (fun _ _ _ q => q)) (by decide))
    have cut : ∀ {σ : L2.St} {H2 : Hp} {te : TE}, Same H1 H2 → σ[1]? = some (some (.ref p1)) → σ[3]? = some (some (.int (at_ : Int))) → EvX K te σ H2 → EvX K (tOp (rCatA K) (tSl (rSlA K) (tVar 1) tNoPart (tPart (tVar 3))) (tTup (tCons te tNil))) σ H2 := fun {σ H2 te} s e1 e3 h =>
      evx_t (evt_cat (evt_sl (P1 s e1) (fun _ _ _ q => q) (fun _ _ _ q => ⟨_, e3, _, rfl, q⟩)) (evt_tup (evxa_cons h evxa_nil)) (by decide))
    have far : ∀ {σ : L2.St} {H2 : Hp} {ta : TA} {n : Nat}, Same H1 H2 → σ[1]? = some (some (.ref p1)) → n ≤ 100 → EvXA K ta σ H2 n → EvX K (tOp (rCatA K) (tVar 1) (tTup ta)) σ H2 := fun {σ H2 ta n} s e1 hn h =>
      evx_t (evt_cat (P1 s e1) (evt_tup h (by omega)) (by omega))
    have at3 : ∀ {σ : L2.St} {H2 H3 : Hp} {Q : VK}, Same H1 H2 → Same H2 H3 → σ[1]? = some (some (.ref p1)) → σ[3]? = some (some (.int (at_ : Int))) → Q (.int (n1 : Int)) H3 → tOp (rIxT K) (tVar 1) (tVar 3) σ H3 Q := fun {σ H2 H3 Q} s s' e1 e3 q =>
      ⟨_, e1, _, e3, p1, _, _, _, rfl, rfl, SqT.of (s' _ _ (s _ _ hp1)), atI_nat vat, q⟩
    refine seq5 ?_
    refine lst_go (K := K) (n := 5) ?_ (by decide) fun L1 H2 s2 o1 => ?_
    · have s := Same.refl H1
      refine evxa_cons (far s rfl (by decide) (evxa_cons evx_int evxa_nil)) ?_
      refine evxa_cons (evx_t (evt_sl (hi := some (-1)) (P1 s rfl) (fun _ _ _ q => q) (fun _ _ _ q => ⟨_, rfl, _, rfl, q⟩))) ?_
      refine evxa_cons (far s rfl (by decide) (evxa_cons evx_int (evxa_cons evx_int evxa_nil))) ?_
      refine evxa_cons (far s rfl (by decide) (evxa_cons evx_int (evxa_cons evx_int evxa_nil))) ?_
      refine evxa_cons (mid s rfl rfl fun H3 s3 Q k => at3 s s3 rfl rfl ⟨_, _, rfl, rfl, k _ _ H3 (Same.refl _) (.int _)⟩) evxa_nil
    refine seq5 ?_
    refine OddL.cat (n := 5) (m := 8) o1 (by decide) rfl ?_ fun L2 H3 s3 o2 => ?_
    · refine evxa_cons (mid s2 rfl rfl fun H3 s3 Q k => ⟨_, rfl, k _ _ H3 (Same.refl _) (.int _)⟩) ?_
      refine evxa_cons (evx_t (evt_cat (P1 s2 rfl) (P2 s2 rfl) (by decide))) ?_
      refine evxa_cons (fun H3 s3 Q k => ⟨_, rfl, p1, _, rfl, .inr (SqT.of (s3 _ _ (s2 _ _ hp1))), fun l nl => k _ _ _ (Same.new nl) (.lst upd_same)⟩) ?_
      refine evxa_cons evx_non ?_
      refine evxa_cons (evx_of ev_str) ?_
      refine evxa_cons (fun H3 s3 Q k => ⟨_, rfl, p1, _, _, _, rfl, rfl, SqT.of (s3 _ _ (s2 _ _ hp1)), atI_nat (j := 0) v0, _, rfl, digits_log n0 s0, k _ _ H3 (Same.refl _) (.str (digits_len n0 s0))⟩) ?_
      refine evxa_cons (fun H3 s3 Q k => ⟨_, rfl, p1, _, _, _, rfl, rfl, SqT.of (s3 _ _ (s2 _ _ hp1)), atI_nat (j := 0) v0, k _ _ H3 (Same.refl _) (.int _)⟩) ?_
      exact evxa_cons evx_int evxa_nil
    have s23 := s2.trans s3
    refine seq5 ?_
    refine OddL.cat (n := 13) (m := 7) o2 (by decide) rfl ?_ fun L3 H4 s4 o3 => ?_
    · refine evxa_cons (fun H3 s3 Q k p np => k _ _ _ (Same.new np) (.dct upd_same)) ?_
      refine evxa_cons (evx_lst evxa_nil) ?_
      refine evxa_cons (evx_t (evt_tup evxa_nil)) ?_
      refine evxa_cons (evx_t (evt_tup (evxa_cons (evx_t (P1 s23 rfl)) evxa_nil))) ?_
      refine evxa_cons (evx_t (evt_tup (evxa_cons evx_non evxa_nil))) ?_
      refine evxa_cons (mid s23 rfl rfl (evx_of ev_str)) ?_
      exact evxa_cons (cut s23 rfl rfl fun H3 s3 Q k => ⟨_, _, rfl, rfl, ⟨by decide, by decide, by decide⟩, k _ _ H3 (Same.refl _) (.int _)⟩) evxa_nil
    have s24 := s23.trans s4
    refine seq5 ?_
    refine OddL.cat (n := 20) (m := 4) o3 (by decide) rfl ?_ fun L4 H5 s5 o4 => ?_
    · refine evxa_cons (mid s24 rfl rfl fun H3 s3 Q k => at3 s24 s3 rfl rfl ⟨rfl, k _ _ H3 (Same.refl _) (.bl _)⟩) ?_
      refine evxa_cons (cut s24 rfl rfl fun H3 s3 Q k => at3 s24 s3 rfl rfl ⟨rfl, k _ _ H3 (Same.refl _) (.bl _)⟩) ?_
      refine evxa_cons (evx_t (evt_tup (evxa_cons (evx_t (evt_tup evxa_nil)) (evxa_cons evx_int evxa_nil)))) ?_
      exact evxa_cons (evx_t (evt_tup (evxa_cons (evx_lst evxa_nil) evxa_nil))) evxa_nil
    obtain ⟨xs, ds, h1, h2, h3⟩ := o4.ex
    exact ⟨_, rfl, k L4 H5 (D1.trans (Drw.of_same S1 (s24.trans s5))) ⟨xs, ds, h1, h2, by omega⟩⟩
end
end Oh
namespace Oh
open PySem PySem.Spec PyProof.Rows L2 PpSet
/-! ### paths in a list -/
def PathV (H : Hp) (v : V) (w : List Nat) : Prop := ∃ q, v = .ref q ∧ H q = some (.tup (pathV w))
theorem PathV.keep {H H' : Hp} {v : V} {w : List Nat} (s : Same H H') (h : PathV H v w) : PathV H' v w := by
  obtain ⟨q, e, h⟩ := h
  exact ⟨q, e, s _ _ h⟩
inductive PathsAt (H : Hp) : List V → List (List Nat) → Prop
  | nil : PathsAt H [] []
  | cons {v : V} {vs : List V} {w : List Nat} {ws : List (List Nat)} : PathV H v w → PathsAt H vs ws → PathsAt H (v :: vs) (w :: ws)
theorem PathsAt.keep {H H' : Hp} (s : Same H H') : ∀ {vs : List V} {ws : List (List Nat)}, PathsAt H vs ws → PathsAt H' vs ws
  | _, _, .nil => .nil
  | _, _, .cons h t => .cons (h.keep s) (t.keep s)
theorem PathsAt.len {H : Hp} : ∀ {vs : List V} {ws : List (List Nat)}, PathsAt H vs ws → vs.length = ws.length
  | _, _, .nil => rfl
  | _, _, .cons _ t => congrArg (· + 1) t.len
theorem PathsAt.snoc {H : Hp} {v : V} {w : List Nat} (h : PathV H v w) : ∀ {vs : List V} {ws : List (List Nat)}, PathsAt H vs ws → PathsAt H (vs ++ [v]) (ws ++ [w])
  | _, _, .nil => .cons h .nil
  | _, _, .cons x t => .cons x (PathsAt.snoc h t)
theorem PathsAt.get {H : Hp} : ∀ {vs : List V} {ws : List (List Nat)} {i : Nat} {v : V}, PathsAt H vs ws → vs[i]? = some v → ∃ w, ws[i]? = some w ∧ PathV H v w
  | _, _, 0, _, .cons h t, e => ⟨_, rfl, (Option.some.inj e) ▸ h⟩
  | _, _, i + 1, _, .cons h t, e => by
    obtain ⟨w, a, b⟩ := t.get (i := i) (by simpa using e)
    exact ⟨w, by simpa using a, b⟩
theorem PathsAt.upd {H H' : Hp} (h : ∀ b xs, H b = some (.tup xs) → H' b = some (.tup xs)) : ∀ {vs : List V} {ws : List (List Nat)}, PathsAt H vs ws → PathsAt H' vs ws
  | _, _, .nil => .nil
  | _, _, .cons ⟨q, e, x⟩ t => .cons ⟨q, e, h _ _ x⟩ (t.upd h)
theorem PathsAt.dp {K : PySem.W.Frag} {H : Hp} : ∀ {vs : List V} {ws : List (List Nat)}, PathsAt H vs ws → DpAll K H vs (ws.map pathP)
  | _, _, .nil => .nil
  | _, _, .cons ⟨q, e, x⟩ t => by
    subst e
    exact .cons (path_dp x) t.dp
theorem shaped_paths (ws : List (List Nat)) : SeqAt.shaped (.list (ws.map pathP)) = true := by
  have h0 : ∀ w, PyData.canLay0 (pathP w) = true ∧ PyData.depth (pathP w) ≤ 1 := fun w => by
    have z : (PyData.canLay0 (pathP w) && decide (PyData.depth (pathP w) ≤ 64)) = true := shaped_path w
    have h2 : ∀ w : List Nat, PyData.depthAll (w.map fun (n : Nat) => PyData.int (n : Int)) = 0 := fun w => by
      induction w with
      | nil => simp [PyData.depthAll]
      | cons a r ih => simp only [List.map_cons, PyData.depthAll, PyData.depth, ih, Nat.max_self]
    exact ⟨(Bool.and_eq_true_iff.mp z).1, by show PyData.depth (pathP w) ≤ 1; rw [show PyData.depth (pathP w) = 1 by simp only [PyData.depth, h2]]; exact Nat.le_refl 1⟩
  have h1 : PyData.canLayAll0 (ws.map pathP) = true := by
    induction ws with
    | nil => simp [PyData.canLayAll0]
    | cons a r ih => simp only [List.map_cons, PyData.canLayAll0, (h0 a).1, ih, Bool.and_self]
  have h2 : PyData.depthAll (ws.map pathP) ≤ 1 := by
    induction ws with
    | nil => simp [PyData.depthAll]
    | cons a r ih =>
      have ih' := ih (by
        have z := h1
        simp only [List.map_cons, PyData.canLayAll0, Bool.and_eq_true] at z
        exact z.2)
      simp only [List.map_cons, PyData.depthAll]
      exact Nat.max_le.mpr ⟨(h0 a).2, ih'⟩
  show (PyData.canLay0 (.list (ws.map pathP)) && decide (PyData.depth (.list (ws.map pathP)) ≤ 64)) = true
  rw [show PyData.canLay0 (.list (ws.map pathP)) = true by simp only [PyData.canLay0, h1], show decide (PyData.depth (.list (ws.map pathP)) ≤ 64) = true from decide_eq_true (by simp only [PyData.depth]; omega)]
  rfl
theorem eqv_paths : ∀ u w : List Nat, PyData.eqv (pathP u) (pathP w) = decide (u = w) := by
  have key : ∀ u w : List Nat, PyData.eqvAll (u.map fun (n : Nat) => PyData.int (n : Int)) (w.map fun (n : Nat) => PyData.int (n : Int)) = decide (u = w) := by
    intro u
    induction u with
    | nil => intro w; cases w <;> simp [PyData.eqvAll]
    | cons a r ih =>
      intro w
      cases w with
      | nil => simp [PyData.eqvAll]
      | cons b s =>
        simp only [List.map_cons, PyData.eqvAll, PyData.eqv, ih]
        by_cases e : a = b
        · subst e
          simp
        · have e2 : ¬ ((a : Int) = (b : Int)) := by omega
          simp [e, e2]
  intro u w
  simp only [PyData.eqv]
  exact key u w
theorem any_paths (w : List Nat) (ws : List (List Nat)) : ((ws.map pathP).any fun z => PyData.eqv z (pathP w)) = decide (w ∈ ws) := by
  induction ws with
  | nil => rfl
  | cons a r ih =>
    rw [List.map_cons, List.any_cons, ih, eqv_paths]
    by_cases e : a = w
    · subst e
      simp
    · have e2 : ¬ w = a := fun z => e z.symm
      simp [e, e2]
/-! ### rows in a list -/
def WRowV (K : PySem.W.Frag) (H : Hp) (v : V) (r : WRow) : Prop := ∃ p q u, v = .ref p ∧ H p = some (.tup [.ref q, u, .bl r.2.2]) ∧ H q = some (.tup (pathV r.1)) ∧ Rp K H u r.2.1
inductive WRowsAt (K : PySem.W.Frag) (H : Hp) : List V → List WRow → Prop
  | nil : WRowsAt K H [] []
  | cons {v : V} {vs : List V} {r : WRow} {rs : List WRow} : WRowV K H v r → WRowsAt K H vs rs → WRowsAt K H (v :: vs) (r :: rs)
theorem WRowV.keep {K : PySem.W.Frag} {H H' : Hp} {v : V} {r : WRow} (s : Same H H') (h : WRowV K H v r) : WRowV K H' v r := by
  obtain ⟨p, q, u, e, h1, h2, h3⟩ := h
  exact ⟨p, q, u, e, s _ _ h1, s _ _ h2, h3.keep s⟩
theorem WRowsAt.keep {K : PySem.W.Frag} {H H' : Hp} (s : Same H H') : ∀ {vs : List V} {rs : List WRow}, WRowsAt K H vs rs → WRowsAt K H' vs rs
  | _, _, .nil => .nil
  | _, _, .cons h t => .cons (h.keep s) (t.keep s)
theorem WRowV.updL {K : PySem.W.Frag} {H : Hp} {v : V} {r : WRow} {D : Addr} {zs ws : List V} (hD : H D = some (.lst zs)) (h : WRowV K H v r) : WRowV K (upd H D (.lst ws)) v r := by
  obtain ⟨p, q, u, e, h1, h2, h3⟩ := h
  refine ⟨p, q, u, e, ?_, ?_, ?_⟩
  · rw [upd_ne (fun z => by subst z; rw [hD] at h1; cases Option.some.inj h1)]; exact h1
  · rw [upd_ne (fun z => by subst z; rw [hD] at h2; cases Option.some.inj h2)]; exact h2
  · have z : RpAll K (upd H D (.lst ws)) [u] [r.2.1] := (RpAll.cons h3 .nil : RpAll K H [u] [r.2.1]).updL (ys := ws) hD
    cases z with
    | cons a _ => exact a
theorem WRowsAt.updL {K : PySem.W.Frag} {H : Hp} {D : Addr} {zs ws : List V} (hD : H D = some (.lst zs)) : ∀ {vs : List V} {rs : List WRow}, WRowsAt K H vs rs → WRowsAt K (upd H D (.lst ws)) vs rs
  | _, _, .nil => .nil
  | _, _, .cons h t => .cons (h.updL hD) (t.updL hD)
theorem WRowsAt.append {K : PySem.W.Frag} {H : Hp} : ∀ {vs us : List V} {rs ss : List WRow}, WRowsAt K H vs rs → WRowsAt K H us ss → WRowsAt K H (vs ++ us) (rs ++ ss)
  | _, _, _, _, .nil, h => h
  | _, _, _, _, .cons h t, z => .cons h (t.append z)
theorem WRowsAt.len {K : PySem.W.Frag} {H : Hp} : ∀ {vs : List V} {rs : List WRow}, WRowsAt K H vs rs → vs.length = rs.length
  | _, _, .nil => rfl
  | _, _, .cons _ t => congrArg (· + 1) t.len
theorem WRowsAt.get {K : PySem.W.Frag} {H : Hp} : ∀ {vs : List V} {rs : List WRow} {i : Nat} {v : V}, WRowsAt K H vs rs → vs[i]? = some v → ∃ r, rs[i]? = some r ∧ WRowV K H v r
  | _, _, 0, _, .cons h t, e => ⟨_, rfl, (Option.some.inj e) ▸ h⟩
  | _, _, i + 1, _, .cons h t, e => by
    obtain ⟨w, a, b⟩ := t.get (i := i) (by simpa using e)
    exact ⟨w, by simpa using a, b⟩
end Oh
namespace Oh
open PySem PySem.Spec PyProof.Rows L2 PpSet
abbrev intsP (l : List Int) : PyData := .tuple (l.map PyData.int)
theorem pathP_ints (u : List Nat) : pathP u = intsP (u.map fun (n : Nat) => (n : Int)) := by
  show PyData.tuple _ = PyData.tuple _
  rw [List.map_map]
  rfl
theorem eqv_ints : ∀ a b : List Int, PyData.eqv (intsP a) (intsP b) = decide (a = b) := by
  have key : ∀ a b : List Int, PyData.eqvAll (a.map PyData.int) (b.map PyData.int) = decide (a = b) := by
    intro a
    induction a with
    | nil => intro b; cases b <;> simp [PyData.eqvAll]
    | cons x r ih =>
      intro b
      cases b with
      | nil => simp [PyData.eqvAll]
      | cons y s =>
        simp [PyData.eqvAll, PyData.eqv, ih, Bool.decide_and]
        rfl
  intro a b
  show PyData.eqv (.tuple _) (.tuple _) = _
  simp only [PyData.eqv, key]
theorem shaped_ints (l : List Int) : SeqAt.shaped (intsP l) = true := by
  have h1 : PyData.canLayAll0 (l.map PyData.int) = true := by
    induction l with
    | nil => simp [PyData.canLayAll0]
    | cons a r ih => simp only [List.map_cons, PyData.canLayAll0, PyData.canLay0, ih, Bool.and_self]
  have h2 : PyData.depthAll (l.map PyData.int) = 0 := by
    clear h1
    induction l with
    | nil => simp [PyData.depthAll]
    | cons a r ih => simp only [List.map_cons, PyData.depthAll, PyData.depth, ih, Nat.max_self]
  show (PyData.canLay0 (intsP l) && decide (PyData.depth (intsP l) ≤ 64)) = true
  rw [show PyData.canLay0 (intsP l) = true by simp only [PyData.canLay0, h1], show decide (PyData.depth (intsP l) ≤ 64) = true from decide_eq_true (by simp only [PyData.depth, h2]; decide)]
  rfl
theorem ints_dp {K : PySem.W.Frag} {H : Hp} : ∀ (l : List Int), DpAll K H ((l.map fun i => (.inl i : L2.Key)).map kV) (l.map PyData.int)
  | [] => .nil
  | i :: r => .cons (.int i) (ints_dp r)
theorem PathsW.at {H : Hp} : ∀ {bs : List Addr} {ws : List (List Nat)}, PathsW H bs ws → PathsAt H (bs.map V.ref) ws
  | _, _, .nil => .nil
  | _, _, .cons h t => .cons ⟨_, rfl, h⟩ (PathsW.at t)
theorem pathD_ints (u : List Nat) : pathD u = .tup ((u.map fun (n : Nat) => (n : Int)).map DT.int) := by
  show DT.tup _ = DT.tup _
  rw [List.map_map]
  rfl
theorem intsD_inj : ∀ {a b : List Int}, DT.tup (a.map DT.int) = DT.tup (b.map DT.int) → a = b := by
  intro a b h
  have h := congrArg (fun d : DT => match d with | .tup l => l.map (fun x : DT => match x with | .int i => i | _ => 0) | _ => []) h
  have h : (a.map DT.int).map _ = (b.map DT.int).map _ := h
  rw [List.map_map, List.map_map] at h
  have e : ∀ l : List Int, l.map ((fun x : DT => match x with | .int i => i | _ => 0) ∘ DT.int) = l := fun l => List.map_id' l
  rw [e, e] at h
  exact h
open Classical in
/-- whether a value is one of the paths -/
noncomputable def isPathB (d : DT) (ws : List (List Nat)) : Bool := decide (∃ u ∈ ws, d = pathD u)
open Classical in
theorem isPath_iff {d : DT} {ws : List (List Nat)} : isPathB d ws = true ↔ ∃ u ∈ ws, d = pathD u := by
  unfold isPathB
  exact decide_eq_true_iff
def spIsPath (K : PySem.W.Frag) : Sp := fun vs H Q _ => ∃ x d Pa bs ws, vs = [x, .ref Pa] ∧ Rp K H x d ∧ H Pa = some (.lst (bs.map V.ref)) ∧ PathsW H bs ws ∧ ∀ H', Same H H' → Q (.bl (isPathB d ws)) H'
open Classical in
theorem isPath_no {d : DT} {ws : List (List Nat)} (h : ∀ u, d ≠ pathD u) : isPathB d ws = false := by
  unfold isPathB
  exact decide_eq_false fun ⟨u, _, e⟩ => h u e
section
variable {P : Program} {w : World} {K : PySem.W.Frag} {mg : Str → Option Value} {base : Heap}
abbrev nIp5 : List Str := ["_law_value", "_law_paths", "_law_part"]
theorem scIp5 : FnScope nIp5 ["_law_value", "_law_paths"] (defScope lIsPath) := ⟨rfl, rfl, rfl, by decide +kernel, rfl, by decide +kernel, by decide +kernel⟩
theorem ok_isPath5 {f : Addr} {fd : FuncData} (F : Fun K "_law_is_path" "_law_is_path" lIsPath f fd) (T : TxtI mg) : FnOk P w K mg base CX0 1 f fd ["_law_value", "_law_paths"] (spIsPath K) := by
  refine F.ok scIp5 (fun vs H Q E h => ?_) (fun cdv A outer s H vs Q E hr h => ?_)
  · obtain ⟨x, d, Pa, bs, ws, rfl, _⟩ := h
    rfl
  · obtain ⟨x, d, Pa, bs, ws, rfl, rx, hPa, pw, k⟩ := h
    have hu : (A.deeper (envOfC (Str.ofString "_law_is_path") (defScope lIsPath) s.heap.objs.size f cdv)).units + 65 < cLine := by have := hr.un; omega
    refine ⟨_, (pss_cons (ps_if (pt_not (pt_val (pe_isi (pv 0) mono_var T.isi T.tuple bb_tuple)))
        (pss_one (ps_ret pe_bl)) pss_nil)
      (pss_cons (ps_for PassesOwn.never rfl (pi_tup (pv 0)) (pg_name (i := 2) scIp5.nd rfl (Or.inl rfl))
        (pss_one (ps_if (pw_or (pt_not (pt_val (pe_isi (pv 2) mono_var T.isi T.int bb_int))) (pw_or1 (pt_val (pe_isi (pv 2) mono_var T.isi T.bool bb_bool)))).pt
          (pss_one (ps_ret pe_bl)) pss_nil)))
      (pss_one (ps_ret (pe_cmpR (op_inD hu) (pv 0) (pv 1) (by rfl)))))), ?_⟩
    obtain ⟨t1, y1, z1⟩ := isi_of rx (.inr (.inr (.inr rfl)))
    refine ⟨_, rfl, t1, _, y1, z1, _, rfl, ?_⟩
    have k0 := k H (Same.refl H)
    cases hb : isB d "tuple" with
    | false =>
      have e : isPathB d ws = false := isPath_no fun u e => by
        rw [e] at hb
        cases hb
      rw [e] at k0
      exact iteT k0
    | true =>
      refine iteF ?_
      obtain ⟨l, rfl⟩ := isTup hb
      obtain ⟨p, xs, rfl, hp, ra⟩ := rx.tup_inv
      have hl := ra.len
      refine ⟨_, rfl, p, rfl, ⟨_, SqT.of hp⟩, for_it (walk_tup (K := K) (a := p) (xs := xs)) (fun i σ H' => ∃ x2 : Option V, σ = [some (.ref p), some (.ref Pa), x2] ∧ Same H H' ∧ ∀ y ∈ l.take i, intB y = true)
        ⟨_, rfl, Same.refl H, fun y hy => (List.not_mem_nil hy).elim⟩ (fun i σ H' _ ⟨_, _, s, _⟩ => SqT.of (s _ _ hp)) ?_ ?_⟩
      · rintro i x σ Ha Hb hi ⟨x2, rfl, sa, al⟩ ⟨e, ex⟩
        subst e
        have li : i < l.length := by rw [← hl]; exact hi
        obtain ⟨vi, ev, rv⟩ := ra.get (i := i) (d := l[i]) (List.getElem?_eq_getElem li)
        obtain rfl := Option.some.inj (ev.symm.trans ex)
        have rv' := rv.keep sa
        obtain ⟨t1, y1, z1⟩ := isi_of rv' (.inl rfl)
        obtain ⟨t2, y2, z2⟩ := isi_of rv' (.inr (.inl rfl))
        have no : intB l[i] = false → Q (.bl false) Hb := fun h => by
          have e : isPathB (.tup l) ws = false := isPath_no fun u e => by
            have e : DT.tup l = DT.tup (u.map fun (n : Nat) => DT.int (n : Int)) := e
            injection e with e
            have m : l[i] ∈ u.map fun (n : Nat) => DT.int (n : Int) := by
              rw [← e]
              exact List.getElem_mem li
            obtain ⟨n, _, en⟩ := List.mem_map.mp m
            have h2 := h
            rw [← en] at h2
            cases h2
          have := k Hb sa
          rw [e] at this
          exact this
        refine ⟨_, rfl, t1, _, y1, z1, _, rfl, ?_⟩
        cases hd : l[i] with
        | int n =>
          rw [hd] at z2 
          refine iteF ⟨_, rfl, t2, _, y2, z2, _, rfl, iteF ⟨_, rfl, sa, fun y hy => ?_⟩⟩
          rw [List.take_add_one, List.getElem?_eq_getElem li] at hy
          rcases List.mem_append.mp hy with hy | hy
          · exact al y hy
          · rw [show y = l[i] from List.mem_singleton.mp hy, hd]
            rfl
        | bl b =>
          rw [hd] at z2 no
          exact iteF ⟨_, rfl, t2, _, y2, z2, _, rfl, iteT (no rfl)⟩
        | _ =>
          rw [hd] at no
          exact iteT (no rfl)
      · rintro σ H' ⟨x2, rfl, s', al⟩
        rw [hl, List.take_length] at al
        obtain ⟨is, e1, e2⟩ := ints_inv ra (by rw [List.all_map, List.all_eq_true]; exact fun y hy => al y hy)
        subst e1
        subst e2
        refine ⟨_, rfl, _, rfl, intsP is, ws.map pathP, .tup (SqT.of (s' _ _ hp)) (ints_dp is), .lst (SqL.of (s' _ _ hPa)) (PathsAt.keep s' pw.at).dp, shaped_ints is, shaped_paths ws, ?_⟩
        have e : ((ws.map pathP).any fun z => PyData.eqv z (intsP is)) = isPathB (.tup (is.map DT.int)) ws := by
          rw [List.any_map]
          refine Bool.eq_iff_iff.mpr ?_
          rw [List.any_eq_true, isPath_iff]
          constructor
          · rintro ⟨u, hu', h⟩
            have h : PyData.eqv (pathP u) (intsP is) = true := h
            rw [pathP_ints, eqv_ints] at h
            exact ⟨u, hu', by rw [pathD_ints, of_decide_eq_true h]⟩
          · rintro ⟨u, hu', h⟩
            refine ⟨u, hu', ?_⟩
            show PyData.eqv (pathP u) (intsP is) = true
            rw [pathD_ints] at h
            rw [pathP_ints, eqv_ints, intsD_inj h]
            exact decide_eq_true rfl
        rw [e]
        exact k H' s'
end
end Oh
/-! dict(a list of pairs), the first of each a tuple of ints and texts. -/
namespace L2
open PySem PySem.Spec PyProof.Rows
def PrT (H : Hp) (p : Addr) (kv : List Key × V) : Prop := ∃ q : Addr, H p = some (.tup [.ref q, kv.2]) ∧ H q = some (.tup (kv.1.map kV))
theorem prT_of {X : Cx} {pins : List (Addr × Obj)} {σ : St} {H : Hp} {s : Shared} (J : Inv X pins σ H s) : ∀ {ps : List Addr} {kvs : List (List Key × V)}, Paired (PrT H) ps kvs →
    ∃ prs : List (List Key × Addr × Value), KT H kvs prs ∧ prs.length = ps.length ∧ ∀ (j : Nat) (q : List Key × Addr × Value), prs[j]? = some q → ∃ b : Addr, ps[j]? = some b ∧ s.heap.IsTuple b #[.ref q.2.1, q.2.2]
  | _, _, .nil => ⟨[], .nil, rfl, fun j q e => nomatch e⟩
  | _, _, .cons (a := p) (b := kv) ⟨q, e1, e2⟩ t => by
    obtain ⟨prs, kt, ln, at_⟩ := prT_of J t
    obtain ⟨_, its, rv, o, h1, h2, n, h3⟩ := (show ObjOk X.prog X.w H s.heap p (.tup [.ref q, kv.2]) from J.hok p _ e1)
    cases rv with
    | cons r1 rv =>
      cases rv with
      | cons r2 rv =>
        cases rv
        cases r1
        rename_i u
        refine ⟨(kv.1, q, u) :: prs, .cons ⟨rfl, e2, r2⟩ kt, congrArg Nat.succ ln, fun j r e => ?_⟩
        cases j with
        | zero =>
          obtain rfl := Option.some.inj e
          exact ⟨p, rfl, o, h1, h2, n, h3⟩
        | succ j => exact at_ j r e
def rDictT (K : PySem.W.Frag) : List V → Hp → VK → Prop := fun vs H Q => ∃ (L : Addr) (ps : List Addr) (kvs : List (List Key × V)), vs = [.ref L] ∧ SqL K H L (ps.map V.ref) ∧ Paired (PrT H) ps kvs ∧ (kvs.map (·.1)).Nodup ∧ ∀ p, H p = none → Q (.ref p) (upd H p (.dT kvs))
theorem KT.fst {H : Hp} : ∀ {kvs : List (List Key × V)} {xs : List (List Key × Addr × Value)}, KT H kvs xs → kvs.map (·.1) = xs.map (·.1)
  | _, _, .nil => rfl
  | _, _, .cons h t => by rw [List.map_cons, List.map_cons, h.1, KT.fst t]
theorem KT.mem {H : Hp} : ∀ {kvs : List (List Key × V)} {xs : List (List Key × Addr × Value)}, KT H kvs xs → ∀ x ∈ xs, H x.2.1 = some (.tup (x.1.map kV))
  | _, _, .nil, x, h => nomatch h
  | _, _, .cons h t, x, hx => by
    rcases List.mem_cons.mp hx with rfl | hx
    · rw [← h.1]
      exact h.2.1
    · exact KT.mem t x hx
theorem cr_dictT {X : Cx} (calm : X.calm = true) (hu : X.A.units + 64 < cLine) : CallR X (.type "dict") (rDictT X.K) := by
  rintro pins s σ H vs us Q J r ⟨L, ps, kvs, rfl, hs, hp, nd, q⟩
  obtain ⟨its, rv, pl, few⟩ := J.list hs
  rw [Vals.ref1 r]
  have ei := refs_at rv
  subst ei
  obtain ⟨prs, kt, ln, at_⟩ := prT_of J hp
  obtain ⟨o, n, g1, g2, g3, g4⟩ := pl
  rw [List.length_map] at few
  have live : ∀ x ∈ prs, ∃ ob, s.heap.get? x.2.1 = some ob := fun x hx => by
    obtain ⟨ob, _, _, z, _⟩ := key_of (ks := x.1) J.hok (kt.mem x hx)
    exact ⟨ob, z⟩
  refine call_dict_pairsH (knd := tupleKind (mixKind X.prog X.w)) (ps := prs) (PairArg.list L (ps.map Value.ref).toArray (fun j => (ps[j]?).getD 0) (prs.map fun x => (Value.ref x.2.1, x.2.2))) (J.ok.hd calm) ?_ ⟨⟨o, n, g1, g2, g3, g4⟩, ?_, ?_⟩ ⟨?_, ?_⟩ ?_ ?_ ?_
  · exact tupleKind_room_in1 (by show X.A.units + 1 + 1 < cLine; omega)
  · simp [ln]
  · intro j k v e
    rw [List.getElem?_map] at e
    cases e1 : prs[j]? with
    | none => rw [e1] at e; cases e
    | some x =>
      rw [e1] at e
      obtain ⟨b, eb, ht⟩ := at_ j x e1
      have e : (Value.ref x.2.1, x.2.2) = (k, v) := Option.some.inj e
      obtain ⟨rfl, rfl⟩ := Prod.mk.inj e
      refine ⟨?_, .inl ?_⟩
      · simp [eb]
      · show s.heap.IsTuple ((ps[j]?).getD 0) _
        rw [eb]
        exact ht
  · rw [List.length_map]
  · intro i key v e
    have e : (prs.map fun x => (Value.ref x.2.1, x.2.2))[i]? = some (key, v) := e
    rw [List.getElem?_map] at e
    cases e1 : prs[i]? with
    | none => rw [e1] at e; cases e
    | some x =>
      rw [e1] at e
      have e : (Value.ref x.2.1, x.2.2) = (key, v) := Option.some.inj e
      obtain ⟨rfl, rfl⟩ := Prod.mk.inj e
      exact ⟨x.1, x.2.1, rfl, rfl⟩
  · intro h' kp x hx
    obtain ⟨ob, its, m, z1, z2, z3, z4⟩ := key_of (ks := x.1) J.hok (kt.mem x hx)
    exact ⟨ob, its, m, kp _ _ (Nat.ne_of_lt (Heap.lt_size z1)) (fun z => nomatch z) z1, z2, z3, z4⟩
  · rw [List.length_map, ln]
    exact few
  · intro h' tk dd kp
    have nd2 : (prs.map (·.1)).Nodup := by rw [← kt.fst]; exact nd
    rw [storedAllH_nil_of_nodup _ nd2] at dd
    obtain ⟨ob, es, ep, y1, y2, y3, y4, _, y5⟩ := dd
    have ns : (s.heap.objs.size == sysModules) = false := beq_eq_false_iff_ne.mpr (Nat.ne_of_gt J.big)
    have hn : H s.heap.objs.size = none := J.hok.fresh (Nat.le_refl _)
    refine ⟨.ref s.heap.objs.size, upd H s.heap.objs.size (.dT kvs), J.laid (t' := tk) (fun b u e => kp b u (fun z => nomatch z) e) (Nat.le_refl _) ⟨?_, ns, prs, kt.keeps fun b ys e => ?_, ob, es, ep, y1, y2, y3, y4, y5⟩, rfl, q _ hn⟩
    · rw [Paired.length kt, ln]
      exact few
    · rw [upd_ne (ne_of_none e hn)]
      exact e
end L2
namespace L2
open PySem PySem.Spec PyProof.Rows
/-- != of two lists of the same items -/
def rNeSame : R2 := fun x y H Q => ∃ a b xs, x = .ref a ∧ y = .ref b ∧ H a = some (.lst xs) ∧ H b = some (.lst xs) ∧ (∀ v ∈ xs, Bare v) ∧ Q (.bl false) H
theorem bare_at {A : Around} {s : Shared} {x : V} {u v : Value} (h : Bare x) (ru : RelV x u) (rv : RelV x v) : SeqAt.EqAt A s u v true := by
  rcases h with ⟨h1, h2⟩ | ⟨a, rfl⟩
  · have q := eqAt_V (A := A) (s := s) ru rv h1 h1
    rw [h2] at q
    exact q
  · cases ru
    cases rv
    exact SeqAt.EqAt.same _
theorem op_neSame {X : Cx} (hu : X.A.units < cLine) : OpR X (compareOp .NotEq) rNeSame := by
  rintro pins s σ H x y v u Q J rx ry ⟨a, b, xs, rfl, rfl, ha, hb, bare, q⟩
  cases rx
  cases ry
  obtain ⟨_, its, k, r, e⟩ := J.hok a _ ha
  obtain ⟨_, its2, k2, r2, e2⟩ := J.hok b _ hb
  have sz : its.toArray.size = its2.toArray.size := by rw [List.size_toArray, List.size_toArray, ← r.length, ← r2.length]
  have h := SeqAt.RcNeAt.lists (A := X.A) (s := s) (e := fun _ => true) ⟨_, e, rfl, _, rfl⟩ ⟨_, e2, rfl, _, rfl⟩ sz hu fun j h1 h2 => by
    have g1 : its[j]? = some its.toArray[j] := by
      have h1' : j < its.length := by simpa using h1
      rw [List.getElem?_eq_getElem h1'] <;> simp
    have g2 : its2[j]? = some its2.toArray[j] := by
      have h2' : j < its2.length := by simpa using h2
      rw [List.getElem?_eq_getElem h2'] <;> simp
    have lj : j < xs.length := by rw [r.length]; simpa using h1
    obtain ⟨w1, e1, q1⟩ := r.get (List.getElem?_eq_getElem lj)
    obtain ⟨w2, e2, q2⟩ := r2.get (List.getElem?_eq_getElem lj)
    rw [g1] at e1
    rw [g2] at e2
    rw [Option.some.inj e1, Option.some.inj e2]
    exact bare_at (bare _ (List.getElem_mem lj)) q1 q2
  have al : (List.range its.toArray.size).all (fun _ => true) = true := by
    rw [List.all_eq_true]
    exact fun _ _ => rfl
  rw [al] at h
  exact h X.prog X.w X.xe _ ⟨.bl _, H, J, rfl, q⟩
end L2
namespace Oh
open PySem PySem.Spec PyProof.Rows L2 PpSet
/-! ### drawing keeps -/
theorem PathsW.drw {H H' : Hp} {a c : Addr} (S : Src H a c) (x : Drw a c H H') : ∀ {bs : List Addr} {ws : List (List Nat)}, PathsW H bs ws → PathsW H' bs ws
  | _, _, .nil => .nil
  | _, _, .cons h t => .cons (x.at S h (fun _ => nofun)) (PathsW.drw S x t)
theorem RowA.drw {K : PySem.W.Frag} {H H' : Hp} {a c : Addr} (S : Src H a c) (x : Drw a c H H') {v : V} {r : WRow} (h : RowA K H v r) : RowA K H' v r := by
  obtain ⟨R, T, vS, e, h1, h2, h3⟩ := h
  exact ⟨R, T, vS, e, x.at S h1 (fun _ => nofun), x.at S h2 (fun _ => nofun), h3.drw S x⟩
theorem RowsA.drw {K : PySem.W.Frag} {H H' : Hp} {a c : Addr} (S : Src H a c) (x : Drw a c H H') : ∀ {xs : List V} {rs : List WRow}, RowsA K H xs rs → RowsA K H' xs rs
  | _, _, .nil => .nil
  | _, _, .cons h t => .cons (h.drw S x) (RowsA.drw S x t)
/-- what is due, apart from the lists' birth -/
structure DueL (H : Hp) (p N P Pa Li : Addr) (rs : List WRow) (ns ps : List Str) (bs ls : List Addr) : Prop where
  ep : H p = some (.lst [.ref N, .ref P, .ref Pa, .ref Li])
  eN : H N = some (.lst (ns.map V.str))
  eP : H P = some (.lst (ps.map V.str))
  eA : H Pa = some (.lst (bs.map V.ref))
  eL : H Li = some (.lst (ls.map V.ref))
  n : AscOf (namesW rs) ns
  q : AscOf (portsW rs) ps
  b : PathsW H bs (rs.map (·.1))
  l : PathsW H ls ((rs.filter openW).map (·.1))
theorem TolA.due {H0 H : Hp} {p N P Pa Li : Addr} {rs : List WRow} {ns ps : List Str} {bs ls : List Addr} (t : TolA H0 H p N P Pa Li rs ns ps bs ls) : DueL H p N P Pa Li rs ns ps bs ls := ⟨t.ep, t.eN, t.eP, t.eA, t.eL, t.n, t.q, t.b, t.l⟩
theorem DueL.keep {H H' : Hp} {p N P Pa Li : Addr} {rs : List WRow} {ns ps : List Str} {bs ls : List Addr} (s : Same H H') (t : DueL H p N P Pa Li rs ns ps bs ls) : DueL H' p N P Pa Li rs ns ps bs ls :=
  ⟨s _ _ t.ep, s _ _ t.eN, s _ _ t.eP, s _ _ t.eA, s _ _ t.eL, t.n, t.q, PathsW.keep s t.b, PathsW.keep s t.l⟩
/-- none of some lists is the source's -/
def Off (a c : Addr) (l : List Addr) : Prop := ∀ x ∈ l, x ≠ a ∧ x ≠ c
theorem off_new {H : Hp} {a c : Addr} {l : List Addr} (S : Src H a c) (h : ∀ x ∈ l, H x = none) : Off a c l := fun x hx => ⟨free_ne S.some_a (h x hx), free_ne S.some_c (h x hx)⟩
theorem DueL.drw {H H' : Hp} {a c p N P Pa Li : Addr} {rs : List WRow} {ns ps : List Str} {bs ls : List Addr} (S : Src H a c) (x : Drw a c H H') (o : Off a c [N, P, Pa, Li, p]) (t : DueL H p N P Pa Li rs ns ps bs ls) : DueL H' p N P Pa Li rs ns ps bs ls := by
  have at_ : ∀ {b : Addr} {u : HO}, b ∈ [N, P, Pa, Li, p] → H b = some u → H' b = some u := fun {b u} hb e => x.k _ _ e (o b hb).1 (o b hb).2
  exact ⟨at_ (by simp) t.ep, at_ (by simp) t.eN, at_ (by simp) t.eP, at_ (by simp) t.eA, at_ (by simp) t.eL, t.n, t.q, PathsW.drw S x t.b, PathsW.drw S x t.l⟩
/-! ### told and due are alike -/
theorem al_paths {H : Hp} {A B : Addr} : ∀ {bs cs : List Addr} {ws : List (List Nat)}, H A = some (.lst (bs.map V.ref)) → H B = some (.lst (cs.map V.ref)) → PathsW H bs ws → PathsW H cs ws → ws.length ≤ 1000 → (∀ u ∈ ws, u.length ≤ 1000) → Al H 2 (.ref A) (.ref B) := by
  intro bs cs ws hA hB pb pc lw lu
  have lb := Paired.length pb
  have lc := Paired.length pc
  refine .inr ⟨A, B, _, _, rfl, rfl, .inr ⟨hA, hB⟩, by rw [List.length_map, List.length_map, lb, lc], by rw [List.length_map, lc]; exact lw, fun i x y hx hy => ?_⟩
  rw [List.getElem?_map] at hx hy
  cases e1 : bs[i]? with
  | none => rw [e1] at hx; cases hx
  | some b =>
  cases e2 : cs[i]? with
  | none => rw [e2] at hy; cases hy
  | some c =>
  rw [e1] at hx
  rw [e2] at hy
  cases hx
  cases hy
  have li : i < ws.length := by rw [← lb]; exact (List.getElem?_eq_some_iff.mp e1).1
  have get : ∀ {bs : List Addr} {ws : List (List Nat)} {i : Nat} {b : Addr} {u : List Nat}, PathsW H bs ws → bs[i]? = some b → ws[i]? = some u → H b = some (.tup (pathV u)) := by
    intro bs ws i b u p
    induction p generalizing i with
    | nil => intro e; cases e
    | cons h t ih =>
      intro e1 e2
      cases i with
      | zero => cases e1; cases e2; exact h
      | succ i => exact ih e1 e2
  have eu : ws[i]? = some ws[i] := List.getElem?_eq_getElem li
  have hb := get pb e1 eu
  have hc := get pc e2 eu
  refine .inr ⟨b, c, _, _, rfl, rfl, .inl ⟨hb, hc⟩, rfl, by rw [List.length_map]; exact lu _ (List.getElem_mem li), fun j x y hx hy => ?_⟩
  obtain rfl := Option.some.inj (hx.symm.trans hy)
  rw [List.getElem?_map] at hx
  cases e3 : (ws[i])[j]? with
  | none => rw [e3] at hx; cases hx
  | some n => rw [e3] at hx; cases hx; exact ⟨rfl, rfl⟩
theorem al_strs {H : Hp} {p p' : Addr} {zs : List Str} (h : H p = some (.lst (zs.map V.str))) (h' : H p' = some (.lst (zs.map V.str))) (hl : zs.length ≤ 1000) : Al H 2 (.ref p) (.ref p') := by
  refine .inr ⟨p, p', _, _, rfl, rfl, .inr ⟨h, h'⟩, rfl, by rw [List.length_map]; exact hl, fun i x y e1 e2 => ?_⟩
  obtain rfl := Option.some.inj (e1.symm.trans e2)
  rw [List.getElem?_map] at e1
  cases z : zs[i]? with
  | none => rw [z] at e1; cases e1
  | some s =>
    rw [z] at e1
    cases e1
    exact .inl ⟨rfl, rfl⟩
theorem al_due {H : Hp} {p N P Pa Li p' N' P' Pa' Li' : Addr} {rs : List WRow} {ns ps ns' ps' : List Str} {bs ls bs' ls' : List Addr} (t : DueL H p N P Pa Li rs ns ps bs ls) (t' : DueL H p' N' P' Pa' Li' rs ns' ps' bs' ls')
    (ln : ns.length ≤ 1000) (lp : ps.length ≤ 1000) (lr : rs.length ≤ 1000) (lu : ∀ r ∈ rs, r.1.length ≤ 1000) : Al H 3 (.ref p) (.ref p') := by
  obtain rfl := AscOf.uniq t.n t'.n
  obtain rfl := AscOf.uniq t.q t'.q
  have a1 := al_strs t.eN t'.eN ln
  have a2 := al_strs t.eP t'.eP lp
  have a3 := al_paths t.eA t'.eA t.b t'.b (by rw [List.length_map]; exact lr) fun u hu => by
    obtain ⟨r, hr, rfl⟩ := List.mem_map.mp hu
    exact lu r hr
  have a4 := al_paths t.eL t'.eL t.l t'.l (by rw [List.length_map]; exact Nat.le_trans (List.length_filter_le _ _) lr) fun u hu => by
    obtain ⟨r, hr, rfl⟩ := List.mem_map.mp hu
    exact lu r (List.mem_filter.mp hr).1
  refine .inr ⟨p, p', _, _, rfl, rfl, .inr ⟨t.ep, t'.ep⟩, rfl, by show 4 ≤ 1000; decide, fun i x y hx hy => ?_⟩
  match i, hx, hy with
  | 0, hx, hy => cases hx; cases hy; exact a1
  | 1, hx, hy => cases hx; cases hy; exact a2
  | 2, hx, hy => cases hx; cases hy; exact a3
  | 3, hx, hy => cases hx; cases hy; exact a4
  | i + 4, hx, _ => cases hx
/-! ### small numbers in the paths -/
theorem rows_small : ∀ {m : Nat} {b : DT} {path : List Nat} {lp : Bool}, goodR m b = true → (∀ x ∈ path, x ≤ 12) → ∀ r ∈ rowsW m b path lp, ∀ x ∈ r.1, x ≤ 12
  | 0, _, _, _, h, _ => by cases h
  | m + 1, b, p, lp, h, hp => by
    obtain ⟨hb, hi⟩ := good_parts h
    obtain ⟨l, rfl, ll⟩ := block_inv hb
    have app : ∀ {u : List Nat} {n : Nat}, (∀ x ∈ u, x ≤ 12) → n ≤ 12 → ∀ x ∈ u ++ [n], x ≤ 12 := fun hu hn x hx => by
      rcases List.mem_append.mp hx with hx | hx
      · exact hu x hx
      · rw [List.mem_singleton.mp hx]
        exact hn
    have bl : ∀ (here : List Nat) (lp : Bool) (cs : List DT) (j : Nat), (∀ x ∈ here, x ≤ 12) → (∀ c ∈ cs, goodR m c = true) → j + cs.length ≤ 12 → ∀ r ∈ blocksW (rowsW m) here lp cs j, ∀ x ∈ r.1, x ≤ 12 := by
      intro here lp cs
      induction cs with
      | nil => exact fun j _ _ _ r hr => (List.not_mem_nil hr).elim
      | cons c cs ih =>
        intro j hh hc hl r hr
        rw [List.length_cons] at hl
        rcases List.mem_append.mp hr with hr | hr
        · exact rows_small (hc c List.mem_cons_self) (app hh (by omega)) r hr
        · exact ih (j + 1) hh (fun x hx => hc x (List.mem_cons_of_mem _ hx)) (by omega) r hr
    have it : ∀ (ds : List DT) (i : Nat), (∀ d ∈ ds, stmtB d = true ∧ ∀ c ∈ blocksB d, goodR m c = true) → i + ds.length ≤ 12 → ∀ r ∈ itemsW (rowsW m) p lp ds i, ∀ x ∈ r.1, x ≤ 12 := by
      intro ds
      induction ds with
      | nil => exact fun i _ _ r hr => (List.not_mem_nil hr).elim
      | cons d ds ih =>
        intro i hd hl r hr
        rw [List.length_cons] at hl
        obtain ⟨h1, h2⟩ := hd d List.mem_cons_self
        rcases List.mem_cons.mp hr with rfl | hr
        · exact app hp (by omega)
        rcases List.mem_append.mp hr with hr | hr
        · unfold inW at hr
          rw [if_pos h1] at hr
          exact bl _ _ _ 0 (app hp (by omega)) h2 (by have := (blocks_ok h1).2; omega) r hr
        · exact ih (i + 1) (fun x hx => hd x (List.mem_cons_of_mem _ hx)) (by omega) r hr
    exact it _ 0 hi (by show 0 + l.length ≤ 12; omega)
theorem rows_plain : ∀ {m : Nat} {b : DT} {path : List Nat} {lp : Bool}, goodR m b = true → ∀ r ∈ rowsW m b path lp, plainB (10 * m) r.2.1 = true
  | 0, _, _, _, h => by cases h
  | m + 1, b, p, lp, h => by
    have bl : ∀ (here : List Nat) (lp : Bool) (cs : List DT) (j : Nat), (∀ c ∈ cs, goodR m c = true) → ∀ r ∈ blocksW (rowsW m) here lp cs j, plainB (10 * m) r.2.1 = true := by
      intro here lp cs
      induction cs with
      | nil => exact fun j _ r hr => (List.not_mem_nil hr).elim
      | cons c cs ih =>
        intro j hc r hr
        rcases List.mem_append.mp hr with hr | hr
        · exact rows_plain (hc c List.mem_cons_self) r hr
        · exact ih (j + 1) (fun x hx => hc x (List.mem_cons_of_mem _ hx)) r hr
    have it : ∀ (ds : List DT) (i : Nat), (∀ d ∈ ds, stmtB d = true ∧ ∀ c ∈ blocksB d, goodR m c = true) → ∀ r ∈ itemsW (rowsW m) p lp ds i, plainB (10 * (m + 1)) r.2.1 = true := by
      intro ds
      induction ds with
      | nil => exact fun i _ r hr => (List.not_mem_nil hr).elim
      | cons d ds ih =>
        intro i hd r hr
        obtain ⟨h1, h2⟩ := hd d List.mem_cons_self
        rcases List.mem_cons.mp hr with rfl | hr
        · exact plain_up (n := 10 * m + 9) (by omega) (plain_stmt h1 fun c hc => plain_good m c (h2 c hc))
        rcases List.mem_append.mp hr with hr | hr
        · unfold inW at hr
          rw [if_pos h1] at hr
          exact plain_up (by omega) (bl _ _ _ 0 h2 r hr)
        · exact ih (i + 1) (fun x hx => hd x (List.mem_cons_of_mem _ hx)) r hr
    exact it _ 0 (good_parts h).2
theorem asc_few {l ys S : List Str} (a : AscOf l ys) (h : ∀ x ∈ l, x ∈ S) : ys.length ≤ S.length := sub_len a.n fun x hx => h x ((a.m x).mp hx)
end Oh
namespace Oh
open PySem PySem.Spec PyProof.Rows L2 PpSet
theorem next5 {te : TE} {i : Nat} {rest : TS} {D : Ends} {ct bk : L2.St → Hp → Prop} {rt : VK} {σ : L2.St} {H : Hp} (h : te σ H fun v H1 => rest D (σ.set i (some v)) H1) : tNext { nx := tSeq (tAsg te (gName i)) rest D, ct := ct, bk := bk, rt := rt } σ H := h
theorem nx5 {te : TE} {i : Nat} {rest : TS} {D : Ends} {ct bk : L2.St → Hp → Prop} {rt : VK} {σ : L2.St} {H : Hp} (h : te σ H fun v H1 => rest D (σ.set i (some v)) H1) : Ends.nx { nx := tSeq (tAsg te (gName i)) rest D, ct := ct, bk := bk, rt := rt } σ H := h
theorem val_mem {κ : Type} [DecidableEq κ] : ∀ {kvs : List (κ × V)} {k : κ} {v : V}, (kvs.map (·.1)).Nodup → (k, v) ∈ kvs → valV kvs k = some v
  | [], _, _, _, h => (List.not_mem_nil h).elim
  | (k', v') :: r, k, v, nd, h => by
    rw [List.map_cons, List.nodup_cons] at nd
    unfold valV
    rcases List.mem_cons.mp h with e | h
    · cases e
      rw [List.find?_cons_of_pos (by simp)]
      rfl
    · have ne : ¬ k' = k := fun e => nd.1 (by rw [show k' = k from e]; exact List.mem_map.mpr ⟨(k, v), h, rfl⟩)
      rw [List.find?_cons_of_neg (by simpa using ne)]
      exact val_mem nd.2 h
/-- the rows as pairs of a key and a value -/
theorem rows_dict {K : PySem.W.Frag} {H : Hp} : ∀ {xs : List V} {rs : List WRow}, RowsA K H xs rs → ∃ (ps : List Addr) (kvs : List (List L2.Key × V)), xs = ps.map V.ref ∧ Paired (PrT H) ps kvs ∧ kvs.map (·.1) = rs.map (fun r => keyP r.1) ∧ ∀ r ∈ rs, ∃ v, Rp K H v r.2.1 ∧ (keyP r.1, v) ∈ kvs
  | _, _, .nil => ⟨[], [], rfl, .nil, rfl, fun r h => (List.not_mem_nil h).elim⟩
  | _, _, .cons (b := r) ⟨R, T, vS, e, h1, h2, h3⟩ t => by
    obtain ⟨ps, kvs, e1, e2, e3, e4⟩ := rows_dict t
    refine ⟨R :: ps, (keyP r.1, vS) :: kvs, by rw [e, e1]; rfl, .cons ⟨T, h1, by rw [pathV_key]; exact h2⟩ e2, by rw [List.map_cons, List.map_cons, e3], fun q hq => ?_⟩
    rcases List.mem_cons.mp hq with rfl | hq
    · exact ⟨vS, h3, List.mem_cons_self⟩
    · obtain ⟨v, z1, z2⟩ := e4 q hq
      exact ⟨v, z1, List.mem_cons_of_mem _ z2⟩
theorem pick5 {H : Hp} : ∀ {bs : List Addr} {rs : List WRow} {i : Nat}, PathsW H bs (rs.map (·.1)) → i < bs.length → ∃ b, ∃ q ∈ rs, bs[i]? = some b ∧ H b = some (.tup (pathV q.1))
  | [], _, _, _, h => absurd h (Nat.not_lt_zero _)
  | b :: bs, [], _, h, _ => by cases h
  | b :: bs, r :: rs, i, h, hi => by
    cases h with
    | cons h t =>
      cases i with
      | zero => exact ⟨b, r, List.mem_cons_self, rfl, h⟩
      | succ i =>
        obtain ⟨b', q, hq, e1, e2⟩ := pick5 t (Nat.lt_of_succ_lt_succ hi)
        exact ⟨b', q, List.mem_cons_of_mem _ hq, e1, e2⟩
def spLaw (K : PySem.W.Frag) : Sp := fun vs H Q _ => ∃ (a : Addr) (ns : List Int), vs = [.ref a] ∧ SqL K H a (ns.map V.int) ∧ ns.length ≤ 63 ∧ ∀ H', Q (.bl true) H'
structure Def (P : Program) (w : World) (K : PySem.W.Frag) (mg : Str → Option Value) (base : Heap) (CX : CXT) (k : Nat) (x : Str) (ps : List Str) (sp : Sp) : Prop where
  ex : ∃ f fd, FnOk P w K mg base CX k f fd ps sp ∧ PySem.W.keepIn K (.ref f) = true ∧ Binds K fd ps [] ∧ mg x = some (.ref f)
/-- the told lists, whatever has become of them -/
structure FstL (m : Nat) (H : Hp) (p N P Pa Li : Addr) : Prop where
  ep : H p = some (.lst [.ref N, .ref P, .ref Pa, .ref Li])
  ls : ∀ a ∈ [N, P, Pa, Li], ∃ zs, H a = some (.lst zs) ∧ zs.length ≤ m
theorem FstL.put {m m' : Nat} {H : Hp} {p N P Pa Li a : Addr} {zs : List V} (h : FstL m H p N P Pa Li) (nd : [N, P, Pa, Li, p].Nodup) (ha : a ∈ [N, P, Pa, Li]) (hl : zs.length ≤ m') (hm : m ≤ m') : FstL m' (upd H a (.lst zs)) p N P Pa Li := by
  have nap : p ≠ a := fun z => by
    subst z
    have : (([N, P, Pa, Li] : List Addr) ++ [p]).Nodup := nd
    obtain ⟨_, _, h3⟩ := List.nodup_append.mp this
    exact h3 p ha p (List.mem_singleton.mpr rfl) rfl
  refine ⟨by rw [upd_ne nap]; exact h.ep, fun b hb => ?_⟩
  by_cases c : b = a
  · subst c
    exact ⟨zs, upd_same, hl⟩
  · obtain ⟨ys, e, l⟩ := h.ls b hb
    exact ⟨ys, by rw [upd_ne c]; exact e, Nat.le_trans l hm⟩
theorem drw_put {a c b : Addr} {H H' : Hp} {o : HO} (D : Drw a c H H') (hn : H b = none) (ob : b ≠ a ∧ b ≠ c) : Drw a c H (upd H' b o) :=
  ⟨fun x u e n1 n2 => by rw [upd_ne (ne_of_none e hn)]; exact D.k x u e n1 n2, D.s.of_ne ob.1.symm ob.2.symm⟩
section
variable {P : Program} {w : World} {K : PySem.W.Frag} {mg : Str → Option Value} {base : Heap} {hR hBR hNP : Addr}
abbrev nLaw : List Str := ["_law_script", "_law_source_here", "_law_menu_here", "_law_block_here", "_law_due_here", "_law_rows_here", "_law_routine", "_law_first", "_law_k", "_law_path", "_law_other", "_law_value", "_law_found"]
theorem scLaw : FnScope nLaw ["_law_script"] (defScope sLaw) := ⟨rfl, rfl, rfl, by decide +kernel, rfl, by decide +kernel, by decide +kernel⟩
theorem ok_law {f fI fS fA : Addr} {fd fdI fdS fdA : FuncData} (F : Fun K "law" "law" sLaw f fd) (T : TxtO mg) (TI : TxtI mg)
    (DZ : Def P w K mg base CX0 1 "_law_source" ["_law_script"] (spSource K)) (DM : Def P w K mg base CX0 4 "_law_menu" ["_law_source_here"] spMenu) (DD : Def P w K mg base CX0 2 "_law_draw" ["_law_source_here", "_law_many"] spDraw) (DO : Def P w K mg base CX0 31 "_law_top" ["_law_source_here", "_law_menu_here"] (spTop K))
    (DU : Def P w K mg base CX0 8 "_law_due" ["_law_block_here"] (spDue5 K)) (DL : Def P w K mg base CX0 2 "_law_listed" ["_law_block_here"] (spList5 K)) (DTo : Def P w K mg base CX0 2 "_law_told" ["_law_routine"] (spTold5 K hR))
    (GA : FnOk P w K mg base CX0 130 fA fdA ["_law_actual", "_law_due_here"] (spAlike K 128)) (GB : FnOk P w K mg base CX0 5 fA fdA ["_law_actual", "_law_due_here"] (spAlikeL 3)) (kA : PySem.W.keepIn K (.ref fA) = true) (bA : Binds K fdA ["_law_actual", "_law_due_here"] []) (mA : mg "_law_alike" = some (.ref fA))
    (DG : Def P w K mg base CX0 131 "_law_statements_agree" ["_law_routine", "_law_rows_here"] (spAgree5 K hR)) (DOd : Def P w K mg base CX0 3 "_law_odd_paths" p3d (spOdd5 K)) (DIp : Def P w K mg base CX0 1 "_law_is_path" ["_law_value", "_law_paths"] (spIsPath K)) (DRf : Def P w K mg base CX0 4 "_law_refused" ["_law_routine", "_law_value"] (spRef5 K hR))
    (C : RCls K hR) (M : Mk K hR fI) (GI : FnOk P w K mg base (L2.CX P w) 37 fI fdI ["self", "block"] (spInitD K hR hBR)) (bI : Binds K fdI ["self", "block"] []) (mRo : mg "Routine" = some (.ref hR))
    (aS : Meth K hR "statement" fS) (GS : FnOk P w K mg base (L2.CX P w) 3 fS fdS ["self", "path"] (spStatement K hR hNP)) (bS : Binds K fdS ["self", "path"] []) :
    FnOk P w K mg base CX0 132 f fd ["_law_script"] (spLaw K) := by
  obtain ⟨fZ, fdZ, GZ, kZ, bZ, mZ⟩ := DZ.ex
  obtain ⟨fM, fdM, GM, kM, bM, mM⟩ := DM.ex
  obtain ⟨fD, fdD, GD, kD, bD, mD⟩ := DD.ex
  obtain ⟨fO, fdO, GO, kO, bO, mO⟩ := DO.ex
  obtain ⟨fU, fdU, GU, kU, bU, mU⟩ := DU.ex
  obtain ⟨fL, fdL, GL, kL, bL, mL⟩ := DL.ex
  obtain ⟨fT, fdT, GT, kT, bT, mT⟩ := DTo.ex
  obtain ⟨fG, fdG, GG, kG, bG, mG⟩ := DG.ex
  obtain ⟨fX, fdX, GX, kX, bX, mX⟩ := DOd.ex
  obtain ⟨fP, fdP, GP, kP, bP, mP⟩ := DIp.ex
  obtain ⟨fE, fdE, GE, kE, bE, mE⟩ := DRf.ex
  refine F.ok scLaw (fun vs H Q E h => ?_) (fun cdv A outer s H vs Q E hr h => ?_)
  · obtain ⟨a, ns, rfl, _⟩ := h
    rfl
  · obtain ⟨a0, ns0, rfl, hsq, hlen, k⟩ := h
    have hr1 : Room 1 _ := hr.mono (by decide)
    have hr2 : Room 2 _ := hr.mono (by decide)
    have hr3 : Room 3 _ := hr.mono (by decide)
    have hr4 : Room 4 _ := hr.mono (by decide)
    have hr5 : Room 5 _ := hr.mono (by decide)
    have hr8 : Room 8 _ := hr.mono (by decide)
    have hr31 : Room 31 _ := hr.mono (by decide)
    have hr37 : Room 37 _ := hr.mono (by decide)
    have hr38 : Room 38 _ := hr.mono (by decide)
    have hr130 : Room 130 _ := hr.mono (by decide)
    have hu := hr.units
    have hu1 := hu_of hr1
    refine ⟨_, (pss_cons (ps_set (i := 1) scLaw.nd rfl (Or.inl rfl) (pe_call GZ hr1 (by rfl) mZ kZ bZ .nil pass0 (pa_cons (pv 0) pa_nil)))
      (pss_cons (ps_set (i := 2) scLaw.nd rfl (Or.inl rfl) (pe_call GM hr4 (by rfl) mM kM bM .nil pass0 (pa_cons (pv 1) pa_nil)))
      (pss_cons (ps_if (pt_cmpR op_eq (pe_call GD hr2 (by rfl) mD kD bD .nil pass0 (pa_cons (pv 1) (pa_cons pe_int pa_nil))) pe_int (nomark _))
        (pss_one (ps_expr (pe_bm PySem.F.plainAttrs_list PySem.F.slot_list_append PySem.F.type_list_append mt_append (pe_ix ix_tup (pv 2) pe_int (fun _ _ => rfl)) (pa_cons (pe_ix ix_list (pe_ix ix_tup (pv 2) pe_int (fun _ _ => rfl)) pe_int (fun _ _ => rfl)) pa_nil)))) pss_nil)
      (pss_cons (ps_set (i := 3) scLaw.nd rfl (Or.inl rfl) (pe_call GO hr31 (by rfl) mO kO bO .nil pass0 (pa_cons (pv 1) (pa_cons (pv 2) pa_nil))))
      (pss_cons (ps_set (i := 4) scLaw.nd rfl (Or.inl rfl) (pe_call GU hr8 (by rfl) mU kU bU .nil pass0 (pa_cons (pv 3) pa_nil)))
      (pss_cons (ps_set (i := 5) scLaw.nd rfl (Or.inl rfl) (pe_call GL hr2 (by rfl) mL kL bL .nil pass0 (pa_cons (pv 3) pa_nil)))
      (pss_cons (ps_set (i := 6) scLaw.nd rfl (Or.inl rfl) (pe_make M GI hr38 (by rfl) mRo bI .nil passL (pa_cons (pv 3) pa_nil)))
      (pss_cons (ps_set (i := 7) scLaw.nd rfl (Or.inl rfl) (pe_call GT hr2 (by rfl) mT kT bT .nil pass0 (pa_cons (pv 6) pa_nil)))
      (pss_cons (ps_if (pw_or (pt_not (pt_val (pe_call GB hr5 (by rfl) mA kA bA .nil pass0 (pa_cons (pv 7) (pa_cons (pv 4) pa_nil))))) (pw_or1 (pt_not (pt_val (pe_call GG (hr.mono (by decide)) (by rfl) mG kG bG .nil pass0 (pa_cons (pv 6) (pa_cons (pv 5) pa_nil))))))).pt
        (pss_one (ps_ret pe_bl)) pss_nil)
      (pss_cons (ps_for PassesOwn.never rfl (pi_range1 (by rfl) T.range (pa_cons pe_int pa_nil)) (pg_name (i := 8) scLaw.nd rfl (Or.inl rfl))
        (pss_cons (ps_expr (pe_bm PySem.F.plainAttrs_list PySem.F.slot_list_append PySem.F.type_list_append mt_append (pe_ix ix_list (pv 7) (pv 8) (fun _ _ => rfl)) (pa_cons (pe_tup (pa_cons pe_int (pa_cons pe_int (pa_cons pe_int pa_nil)))) pa_nil)))
        (pss_one (ps_expr (pe_bm0 PySem.F.plainAttrs_list PySem.F.slot_list_reverse PySem.F.type_list_reverse mt_reverse (pe_ix ix_list (pv 7) (pv 8) (fun _ _ => rfl)))))))
      (pss_cons (ps_set (i := 9) scLaw.nd rfl (Or.inl rfl) (pe_ix ix_list (pe_ix ix_list (pv 4) pe_int (fun _ _ => rfl)) (pe_call GD hr2 (by rfl) mD kD bD .nil pass0 (pa_cons (pv 1) (pa_cons (pe_callB call_len_seq (by rfl) T.len boot_len (pa_cons (pe_ix ix_list (pv 4) pe_int (fun _ _ => rfl)) pa_nil)) pa_nil))) (fun _ _ => rfl)))
      (pss_cons (ps_set (i := 10) scLaw.nd rfl (Or.inl rfl) (pe_ix ix_list (pe_ix ix_list (pv 4) pe_int (fun _ _ => rfl)) (pe_call GD hr2 (by rfl) mD kD bD .nil pass0 (pa_cons (pv 1) (pa_cons (pe_callB call_len_seq (by rfl) T.len boot_len (pa_cons (pe_ix ix_list (pv 4) pe_int (fun _ _ => rfl)) pa_nil)) pa_nil))) (fun _ _ => rfl)))
      (pss_cons (ps_for PassesOwn.never rfl (pi_list (pe_call GX hr3 (by rfl) mX kX bX .nil pass0 (pa_cons (pv 1) (pa_cons (pv 9) (pa_cons (pv 10) pa_nil))))) (pg_name (i := 11) scLaw.nd rfl (Or.inl rfl))
        (pss_one (ps_if (pt_not (pt_val (pe_call GP hr1 (by rfl) mP kP bP .nil pass0 (pa_cons (pv 11) (pa_cons (pe_ix ix_list (pv 4) pe_int (fun _ _ => rfl)) pa_nil)))))
          (pss_cons (ps_set (i := 12) scLaw.nd rfl (Or.inl rfl) (pe_call GE hr4 (by rfl) mE kE bE .nil pass0 (pa_cons (pv 6) (pa_cons (pv 11) pa_nil))))
          (pss_one (ps_if (pw_or (pt_cmp (pc_isN (pv 12))) (pw_or (pt_cmpR (op_neSame (Nat.lt_of_succ_lt hu1)) (pv 12) (pe_lst (pa_cons (pv 11) pa_nil)) (nomark _)) (pw_or1 (pt_cmpR op_ne (pe_isi (pe_ix ix_list (pv 12) pe_int (fun _ _ => rfl)) (fun σ H Q Q' wk ⟨v, e, p, xs, i, y, a, b, c, d, q⟩ => ⟨v, e, p, xs, i, y, a, b, c, d, wk _ _ q⟩) TI.isi TI.bool bb_bool) (pe_isi (pv 11) mono_var TI.isi TI.bool bb_bool) (nomark _))))).pt
            (pss_one (ps_ret pe_bl)) pss_nil))) (pss_one (ps_if (pt_not (pt_val (pe_call GA hr130 (by rfl) mA kA bA .nil pass0 (pa_cons (pe_meth (pv 6) C.cl aS GS hr3 bS .nil passL (pa_cons (pv 11) pa_nil)) (pa_cons (pe_dget hu1 (pe_callTy (cr_dictT rfl hu) (by rfl) TI.dict bb_dict (pa_cons (pv 5) pa_nil)) (pv 11) (fun _ _ => rfl)) pa_nil)))))
            (pss_one (ps_ret pe_bl)) pss_nil)))))
      (pss_cons (ps_expr (pe_bm0 PySem.F.plainAttrs_list PySem.F.slot_list_clear PySem.F.type_list_clear mt_clear (pe_ix ix_list (pv 7) pe_int (fun _ _ => rfl))))
      (pss_one (ps_ret (pe_and (pe_call GB hr5 (by rfl) mA kA bA .nil pass0 (pa_cons (pe_call GT hr2 (by rfl) mT kT bT .nil pass0 (pa_cons (pv 6) pa_nil)) (pa_cons (pv 4) pa_nil))) (pe_one (pe_call GG (hr.mono (by decide)) (by rfl) mG kG bG .nil pass0 (pa_cons (pv 6) (pa_cons (pv 5) pa_nil))))))))))))))))))))), ?_⟩
    refine seq5 ?_
    refine ⟨_, rfl, a0, ns0, rfl, hsq, hlen, fun p c H1 s1 S1' => ?_⟩
    refine seq5 ?_
    refine ⟨_, rfl, p, c, rfl, S1', fun pm l1 l2 S1 S2 H2 M2 ⟨few, l12⟩ d2 => ?_⟩
    refine ⟨_, rfl, p, c, 2, rfl, d2.s, by decide, log2_small (by decide) (by decide), fun g H3 g0 g1 S3 K3 => ⟨rfl, _, rfl, ?_⟩⟩
    have M3 := M2.drw d2.s ⟨K3, S3⟩
    have off1 := S3.ne_strs M3.e1 M3.a1
    have off2 := S3.ne_strs M3.e2 M3.a2
    obtain ⟨y0, ey⟩ : ∃ y, S1[0]? = some y := ⟨S1[0]'(by have := M3.a1; omega), List.getElem?_eq_getElem _⟩
    have ey2 : (S1.map V.str)[0]? = some (.str y0) := by rw [List.getElem?_map, ey]; rfl
    clear M2 d2 K3 S1' s1
    by_cases hg : g = 1
    case' pos =>
      refine ite2 (fun _ => ?_) (fun z => absurd (decide_eq_true (by rw [hg])) z)
      refine ⟨_, rfl, pm, _, _, _, rfl, rfl, SqT.of M3.ep, at_of (j := 1) rfl rfl, .inl ⟨rfl, _, SqL.of M3.e2⟩, ?_⟩
      refine ⟨_, rfl, pm, _, _, _, rfl, rfl, SqT.of M3.ep, at_of (j := 0) rfl rfl, l1, _, _, _, rfl, rfl, SqL.of M3.e1, at_of (j := 0) rfl ey2, l2, _, _, rfl, rfl, M3.e2, small1000 (by rw [List.length_map]; omega), ?_⟩
      have eT : upd H3 l2 (.lst (S2.map V.str ++ [.str y0])) = upd H3 l2 (.lst ((S2 ++ [y0]).map V.str)) := by rw [List.map_append]; rfl
      rw [eT]
      have pm2 : pm ≠ l2 := fun z => by
        have a := M3.ep
        rw [z, M3.e2] at a
        cases a
      have M4 : MenuAt (upd H3 l2 (.lst ((S2 ++ [y0]).map V.str))) pm l1 l2 S1 (S2 ++ [y0]) := by
        refine ⟨?_, ?_, upd_same, M3.n1, fun s hs => ?_, M3.a1, ?_, M3.b1, ?_⟩
        · rw [upd_ne pm2]
          exact M3.ep
        · rw [upd_ne l12]
          exact M3.e1
        · rcases List.mem_append.mp hs with hs | hs
          · exact M3.n2 s hs
          · rw [List.mem_singleton.mp hs]
            exact M3.n1 _ (List.mem_of_getElem? ey)
        · rw [List.length_append, List.length_singleton]
          omega
        · rw [List.length_append, List.length_singleton]
          omega
      have S4 : Src (upd H3 l2 (.lst ((S2 ++ [y0]).map V.str))) p c := S3.of_ne off2.1.symm off2.2.symm
      generalize upd H3 l2 (.lst ((S2 ++ [y0]).map V.str)) = H4 at M4 S4 ⊢
      generalize S2 ++ [y0] = T2 at M4
      clear eT
    case' neg =>
      refine ite2 (fun z => absurd (V.int.inj (of_decide_eq_true z)) hg) fun _ => ?_
      have M4 := M3
      have S4 := S3
      generalize H3 = H4 at M4 S4 ⊢
      generalize S2 = T2 at M4
    all_goals
      clear M3 S3
      first | refine next5 ?_ | refine nx5 ?_
      refine ⟨_, rfl, _, rfl, p, c, pm, l1, l2, S1, T2, rfl, S4, M4, fun vb lb H5 r5 g5 n1 n5 c5 d5 => ?_⟩
      have S5 := d5.s
      have ft := gen_fit g5 (Nat.le_trans (c5 12) (by decide))
      have b1 := M4.b1
      have b2 := M4.b2
      clear M4 S4 d5
      have gr := fun r hr => gen_rowsG (m := 12) (path := []) (lp := false) (by decide) ft.gen r hr
      have cnt : cntW 12 (.tup lb) ≤ 300 := Nat.le_trans (c5 12) (by decide)
      have rows0 := rows_pos (m := 11) (p := []) (lp := false) n1
      refine seq5 ?_
      refine ⟨_, rfl, vb, .tup lb, rfl, r5, ft.g, cnt, fun pd N0 P0 A0 L0 ns ps bs ls H6 TA => ?_⟩
      refine seq5 ?_
      have s6 := TA.s
      refine ⟨_, rfl, vb, .tup lb, false, rfl, r5.keep s6, ft.g, cnt, fun Lr xs H7 s7 nL hL ra => ?_⟩
      have S6 := S5.same s6
      have S7 := S6.same s7
      have D7 := TA.due.keep s7
      have offD : Off p c [N0, P0, A0, L0, pd] := off_new S5 TA.new
      have offL : Lr ≠ p ∧ Lr ≠ c := ⟨free_ne S6.some_a nL, free_ne S6.some_c nL⟩
      have r7 := r5.keep (s6.trans s7)
      have lrs : (rowsW 12 (.tup lb) [] false).length ≤ 300 := by rw [rows_len]; exact cnt
      have e7 := rowsD_eq ft.g false
      have pl7 : ∀ q ∈ rowsW 12 (.tup lb) [] false, plainB 128 q.2.1 = true := fun q hq => plain_up (by decide) (rows_plain ft.g q hq)
      have sh7 : ∀ q ∈ rowsW 12 (.tup lb) [] false, q.1.length ≤ 24 := fun q hq => by
        have := rows_short hq
        simpa using this
      have sm7 : ∀ q ∈ rowsW 12 (.tup lb) [] false, ∀ y ∈ q.1, y ≤ 12 := rows_small ft.g fun _ h => (List.not_mem_nil h).elim
      obtain ⟨rs, ers⟩ : ∃ rs, rs = rowsW 12 (.tup lb) [] false := ⟨_, rfl⟩
      rw [← ers] at gr rows0 D7 ra lrs e7 pl7 sh7 sm7
      clear ers TA r5 s6 S5 S6 nL s7
      refine seq5 ?_
      refine ⟨_, rfl, fun x dx nx nd ne => ?_⟩
      have s8 : Same H7 (upd (upd H7 dx (.own x)) x (.ins hR dx [])) := (Same.new nd).trans (Same.new (by rw [upd_ne (Ne.symm ne)]; exact nx))
      have S8 := S7.same s8
      refine ⟨x, vb, _, dx, rfl, r7.keep s8, upd_same, fun _ => ⟨by have := ft.n1; omega, by have := ft.n2; omega, fun H9 kp R nw => ⟨rfl, ?_⟩⟩, fun wp hw => absurd hw (by rw [ft.due]; nofun)⟩
      have s9 : Same H7 H9 := fun b o e => kp b o (s8 _ _ e) (ne_of_none e nx)
      have RX9 : RoutX K H9 hR x vb (.tup lb) p c := nw.x R S8.some_a S8.some_c
      have S9 := S7.same s9
      have D9 := D7.keep s9
      have hL9 := s9 _ _ hL
      have ra9 := RowsA.keep s9 ra
      clear nw s8 S8 nx nd ne kp s9 D7 hL ra S7 r7 R
      have rr : ∀ {H' : Hp}, RoutX K H' hR x vb (.tup lb) p c → RowsR K H' hR x vb (.tup lb) rs := fun {H'} h => ⟨h.R, e7, pl7, fun q hq => Nat.le_trans (sh7 q hq) (by decide)⟩
      have st9 : ∀ q ∈ rs, stmtB q.2.1 = true := fun q hq => (gr q hq).st
      have few1 : ∀ {ys : List Str}, AscOf (namesW rs) ys → ys.length ≤ 10 := fun {ys} a => Nat.le_trans (asc_few a (S := S1) fun y hy => by
        obtain ⟨l, hl, hy⟩ := List.mem_flatten.mp hy
        obtain ⟨q, hq, rfl⟩ := List.mem_map.mp hl
        exact (gr q hq).np.1 y hy) (by omega)
      have few2 : ∀ {ys : List Str}, AscOf (portsW rs) ys → ys.length ≤ 10 := fun {ys} a => Nat.le_trans (asc_few a (S := T2) fun y hy => by
        obtain ⟨l, hl, hy⟩ := List.mem_flatten.mp hy
        obtain ⟨q, hq, rfl⟩ := List.mem_map.mp hl
        exact (gr q hq).np.2 y hy) (by omega)
      refine seq5 ?_
      refine ⟨_, rfl, x, vb, .tup lb, rs, rfl, rr RX9, st9, lrs, fun pf N1 P1 A1 L1 ns' ps' bs' ls' H10 TF => ?_⟩
      have lr1 : rs.length ≤ 1000 := by omega
      have lu1 : ∀ q ∈ rs, q.1.length ≤ 1000 := fun q hq => Nat.le_trans (sh7 q hq) (by decide)
      have like : ∀ {G1 G2 : Hp} {p1 N1 P1 A1 L1 : Addr} {n1 q1 : List Str} {c1 d1 : List Addr}, DueL G2 p1 N1 P1 A1 L1 rs n1 q1 c1 d1 → DueL G2 pd N0 P0 A0 L0 rs ns ps bs ls → Al G2 3 (.ref p1) (.ref pd) := fun {G1 G2 p1 N1 P1 A1 L1 n1 q1 c1 d1} t t' => al_due t t' (Nat.le_trans (few1 t.n) (by decide)) (Nat.le_trans (few2 t.q) (by decide)) lr1 lu1
      refine ⟨_, rfl, _, rfl, .ref pf, .ref pd, rfl, like (G1 := H10) TF.due (D9.keep TF.s), fun H11 s11 => ⟨_, rfl, iteF ?_⟩⟩
      have s911 := TF.s.trans s11
      refine ⟨_, rfl, _, rfl, x, Lr, vb, .tup lb, xs, rs, rfl, rr (RX9.keep s911), s911 _ _ hL9, RowsA.keep s911 ra9, fun H12 s12 => ⟨_, rfl, iteF ?_⟩⟩
      have s912 := s911.trans s12
      have s102 := s11.trans s12
      have offF : Off p c [N1, P1, A1, L1, pf] := off_new S9 TF.new
      have nF : ∀ a ∈ [N1, P1, A1, L1], H9 a = none := fun a ha => TF.new a (by
        simp only [List.mem_cons, List.not_mem_nil, or_false] at ha ⊢
        rcases ha with h | h | h | h
        · exact .inl h
        · exact .inr (.inl h)
        · exact .inr (.inr (.inl h))
        · exact .inr (.inr (.inr (.inl h))))
      have oF : ∀ a ∈ [N1, P1, A1, L1], a ≠ p ∧ a ≠ c := fun a ha => off_new S9 nF a ha
      have ndF := TF.ne
      have FL : FstL 6000 H12 pf N1 P1 A1 L1 := by
        have lb' := Paired.length TF.b
        have ll' := Paired.length TF.l
        have lf := List.length_filter_le openW rs
        rw [List.length_map] at lb' ll'
        refine ⟨s102 _ _ TF.ep, fun a ha => ?_⟩
        simp only [List.mem_cons, List.not_mem_nil, or_false] at ha
        rcases ha with rfl | rfl | rfl | rfl
        · exact ⟨_, s102 _ _ TF.eN, by rw [List.length_map]; exact Nat.le_trans (few1 TF.n) (by decide)⟩
        · exact ⟨_, s102 _ _ TF.eP, by rw [List.length_map]; exact Nat.le_trans (few2 TF.q) (by decide)⟩
        · exact ⟨_, s102 _ _ TF.eA, by rw [List.length_map]; omega⟩
        · exact ⟨_, s102 _ _ TF.eL, by rw [List.length_map]; omega⟩
      have Dr : Drw p c H9 H12 := Drw.of_same S9 s912
      clear s11 s911 s12 s912 s102 TF
      refine ⟨4, rfl, by decide, by decide, for_range (lo := 0) (n := 4) (fun i σ H' => ∃ x8 : Option V, σ = [some (.ref a0), some (.ref p), some (.ref pm), some vb, some (.ref pd), some (.ref Lr), some (.ref x), some (.ref pf), x8, none, none, none, none] ∧ Drw p c H9 H' ∧ FstL (6000 + i) H' pf N1 P1 A1 L1)
        ⟨_, rfl, Dr, FL⟩ ?_ ?_⟩
      · rintro i σ Ha hi ⟨x8, rfl, Dr, FL⟩
        obtain ⟨a1, ea, ha⟩ : ∃ a1, ([V.ref N1, .ref P1, .ref A1, .ref L1] : List V)[i]? = some (.ref a1) ∧ a1 ∈ [N1, P1, A1, L1] := by
          match i, hi with
          | 0, _ => exact ⟨N1, rfl, by simp⟩
          | 1, _ => exact ⟨P1, rfl, by simp⟩
          | 2, _ => exact ⟨A1, rfl, by simp⟩
          | 3, _ => exact ⟨L1, rfl, by simp⟩
        have e0 : (0 : Int) + (i : Int) = (i : Int) := by omega
        rw [e0]
        obtain ⟨zs, hz, lz⟩ := FL.ls a1 ha
        refine ⟨_, rfl, _, rfl, pf, _, _, _, rfl, rfl, SqL.of FL.ep, atI_nat ea, .inl ⟨rfl, _, SqL.of hz⟩, by show 3 ≤ sizeLine; decide, fun t nt => ?_⟩
        have st := Same.new (o := .tup [.int 0, .int 0, .int 0]) nt
        have Dr2 := Dr.trans (Drw.of_same Dr.s st)
        have FL2 : FstL (6000 + i) (upd Ha t (.tup [.int 0, .int 0, .int 0])) pf N1 P1 A1 L1 := ⟨st _ _ FL.ep, fun a ha => by obtain ⟨zs, e, l⟩ := FL.ls a ha; exact ⟨zs, st _ _ e, l⟩⟩
        have hz2 := st _ _ hz
        generalize upd Ha t (.tup [.int 0, .int 0, .int 0]) = Hb at Dr2 FL2 hz2 ⊢
        refine ⟨a1, zs, _, rfl, rfl, hz2, Nat.lt_of_le_of_lt (show zs.length ≤ 7000 by omega) (by decide), ?_⟩
        have Dr3 := drw_put (o := .lst (zs ++ [.ref t])) Dr2 (nF a1 ha) (oF a1 ha)
        have FL3 := FL2.put (m' := 6000 + (i + 1)) (zs := zs ++ [.ref t]) ndF ha (by rw [List.length_append, List.length_singleton]; omega) (by omega)
        have hz3 : upd Hb a1 (.lst (zs ++ [.ref t])) a1 = some (.lst (zs ++ [.ref t])) := upd_same
        generalize upd Hb a1 (.lst (zs ++ [.ref t])) = Hc at Dr3 FL3 hz3 ⊢
        refine ⟨_, rfl, _, rfl, pf, _, _, _, rfl, rfl, SqL.of FL3.ep, atI_nat ea, .inl ⟨rfl, _, SqL.of hz3⟩, a1, _, rfl, rfl, hz3, ?_⟩
        exact ⟨_, rfl, drw_put Dr3 (nF a1 ha) (oF a1 ha), FL3.put ndF ha (by rw [List.length_reverse, List.length_append, List.length_singleton]; omega) (Nat.le_refl _)⟩
      rintro σ Ha ⟨x8, rfl, Dr, FL⟩
      have lbs : 0 < bs.length := by
        have := Paired.length D9.b
        rw [List.length_map] at this
        omega
      have lbs2 : bs.length ≤ 300 := by
        have := Paired.length D9.b
        rw [List.length_map] at this
        omega
      refine nx5 ?_
      have DD := D9.drw S9 Dr offD
      refine ⟨_, rfl, pd, _, _, _, rfl, rfl, SqL.of DD.ep, at_of (j := 2) rfl rfl, _, rfl, _, rfl, pd, _, _, _, rfl, rfl, SqL.of DD.ep, at_of (j := 2) rfl rfl, A0, _, rfl, .inl (SqL.of DD.eA), p, c, _, rfl, Dr.s, by rw [List.length_map]; omega, log2_small (by rw [List.length_map]; omega) (by rw [List.length_map]; omega), fun g H13 g0 g1 S13 K13 => ?_⟩
      have FL13 : FstL 7000 H13 pf N1 P1 A1 L1 := ⟨K13 _ _ FL.ep (offF pf (by simp)).1 (offF pf (by simp)).2, fun a ha => by obtain ⟨zs, e, l⟩ := FL.ls a ha; exact ⟨zs, K13 _ _ e (oF a ha).1 (oF a ha).2, by omega⟩⟩
      have Dr13 := Dr.trans ⟨K13, S13⟩
      rw [List.length_map] at g1
      obtain ⟨gn, rfl⟩ : ∃ n : Nat, g = (n : Int) := ⟨g.toNat, by omega⟩
      have DD := D9.drw S9 Dr13 offD
      obtain ⟨b1, q1, hq1, eb1, hb1⟩ := pick5 DD.b (i := gn) (by omega)
      refine ⟨A0, _, _, .ref b1, rfl, rfl, SqL.of DD.eA, atI_nat (by rw [List.getElem?_map, eb1]; rfl), ?_⟩
      clear FL Dr K13 g0 g1 eb1
      refine seq5 ?_
      refine ⟨_, rfl, pd, _, _, _, rfl, rfl, SqL.of DD.ep, at_of (j := 2) rfl rfl, _, rfl, _, rfl, pd, _, _, _, rfl, rfl, SqL.of DD.ep, at_of (j := 2) rfl rfl, A0, _, rfl, .inl (SqL.of DD.eA), p, c, _, rfl, S13, by rw [List.length_map]; omega, log2_small (by rw [List.length_map]; omega) (by rw [List.length_map]; omega), fun g H14 g0 g1 S14 K14 => ?_⟩
      have FL14 : FstL 7000 H14 pf N1 P1 A1 L1 := ⟨K14 _ _ FL13.ep (offF pf (by simp)).1 (offF pf (by simp)).2, fun a ha => by obtain ⟨zs, e, l⟩ := FL13.ls a ha; exact ⟨zs, K14 _ _ e (oF a ha).1 (oF a ha).2, l⟩⟩
      have Dr14 := Dr13.trans ⟨K14, S14⟩
      have hb1 := (⟨K14, S14⟩ : Drw p c H13 H14).at S13 hb1 (fun _ => nofun)
      rw [List.length_map] at g1
      obtain ⟨gm, rfl⟩ : ∃ n : Nat, g = (n : Int) := ⟨g.toNat, by omega⟩
      have DD := D9.drw S9 Dr14 offD
      obtain ⟨b2, q2, hq2, eb2, hb2⟩ := pick5 DD.b (i := gm) (by omega)
      refine ⟨A0, _, _, .ref b2, rfl, rfl, SqL.of DD.eA, atI_nat (by rw [List.getElem?_map, eb2]; rfl), ?_⟩
      clear FL13 Dr13 S13 K14 g0 g1 eb2
      have sh : ∀ q ∈ rs, q.1.length ≤ 100 := fun q hq => Nat.le_trans (sh7 q hq) (by decide)
      refine ⟨_, rfl, _, rfl, _, rfl, p, c, b1, b2, q1.1, q2.1, rfl, S14, hb1, hb2, (gr q1 hq1).ne, sh q1 hq1, sh q2 hq2, sm7 q1 hq1, fun Lo H15 d15 OL => ?_⟩
      have FL15 : FstL 7000 H15 pf N1 P1 A1 L1 := ⟨d15.k _ _ FL14.ep (offF pf (by simp)).1 (offF pf (by simp)).2, fun a ha => by obtain ⟨zs, e, l⟩ := FL14.ls a ha; exact ⟨zs, d15.k _ _ e (oF a ha).1 (oF a ha).2, l⟩⟩
      have Dr15 := Dr14.trans d15
      clear FL14 Dr14 S14 hb1 hb2 d15 DD
      obtain ⟨ys, ds, hLo, ry, _⟩ := OL.ex
      refine ⟨Lo, rfl, ⟨_, SqL.of hLo⟩, ?_⟩
      have RX15 := RX9.drw S9 Dr15
      have DD15 := D9.drw S9 Dr15 offD
      have ra15 := RowsA.drw S9 Dr15 ra9
      have hL15 := Dr15.k _ _ hL9 offL.1 offL.2
      obtain ⟨pps, kvs, exs, prs, ekv, hkv⟩ := rows_dict ra15
      have ndk : (kvs.map (·.1)).Nodup := by
        rw [ekv]
        have nd : ((rowsD (.tup lb)).map (·.1)).Nodup := lay_nodup 12 (.tup lb) [] none none
        rw [pathsW_eq e7] at nd
        rw [show rs.map (fun r => keyP r.1) = (rs.map (·.1)).map keyP by rw [List.map_map]; rfl]
        exact List.pairwise_map.mpr (List.Pairwise.imp (fun h z => h (keyP_inj z)) nd)
      have prk : ∀ {H' : Hp}, Same H15 H' → ∀ {ps : List Addr} {kv : List (List L2.Key × V)}, Paired (PrT H15) ps kv → Paired (PrT H') ps kv := fun {H'} s {ps kv} h => by
        induction h with
        | nil => exact .nil
        | cons h t ih =>
          obtain ⟨q, z1, z2⟩ := h
          exact .cons ⟨q, s _ _ z1, s _ _ z2⟩ ih
      refine for_it (walk_list (K := K) (a := Lo) (xs := ys)) (fun i σ H' => ∃ x11 x12 : Option V, σ = [some (.ref a0), some (.ref p), some (.ref pm), some vb, some (.ref pd), some (.ref Lr), some (.ref x), some (.ref pf), x8, some (.ref b1), some (.ref b2), x11, x12] ∧ Same H15 H')
        ⟨_, _, rfl, Same.refl _⟩ (fun i σ H' _ ⟨_, _, _, s⟩ => SqL.of (s _ _ hLo)) ?_ ?_
      · rintro i v σ Ha Hb hi ⟨x11, x12, rfl, sa⟩ ⟨e, ev⟩
        subst e
        obtain ⟨d, rv⟩ : ∃ d, Rp K H15 v d := by
          have li : i < ds.length := by rw [← ry.len]; exact hi
          obtain ⟨v', ev', rv⟩ := ry.get (List.getElem?_eq_getElem li)
          rw [ev] at ev'
          rw [Option.some.inj ev']
          exact ⟨_, rv⟩
        have rv := rv.keep sa
        have DDa := DD15.keep sa
        have RXa := RX15.keep sa
        refine ⟨_, rfl, _, rfl, pd, _, _, _, rfl, rfl, SqL.of DDa.ep, at_of (j := 2) rfl rfl, v, d, A0, bs, rs.map (·.1), rfl, rv, DDa.eA, DDa.b, fun H1 s1 => ⟨_, rfl, ?_⟩⟩
        have s1a := sa.trans s1
        have rv1 := rv.keep s1
        have RX1 := RXa.keep s1
        have RR1 := rr RX1
        cases hp : isPathB d (rs.map (·.1)) with
        | false =>
          have no : ∀ q ∈ rowsD (.tup lb), d ≠ pathD q.1 := fun q hq z => by
            obtain ⟨y, hy, e1, _⟩ := RR1.back hq
            have : isPathB d (rs.map (·.1)) = true := isPath_iff.mpr ⟨y.1, List.mem_map_of_mem hy, by rw [z, e1]⟩
            rw [hp] at this
            cases this
          refine iteT ?_
          refine ⟨_, rfl, _, rfl, x, v, vb, .tup lb, d, rfl, RX1.R, rv1, no, fun Lf H2 s2 hLf => ?_⟩
          refine ⟨_, rfl, _, rfl, ite2 (fun z => absurd (of_decide_eq_true z) (by intro q; cases q)) fun _ => ?_⟩
          refine ⟨_, rfl, ⟨_, rfl, by show 1 ≤ sizeLine; decide, fun t nt => ?_⟩⟩
          have st := Same.new (o := .lst [v]) nt
          refine ⟨Lf, t, [v], rfl, rfl, st _ _ hLf, upd_same, fun y hy => by rw [List.mem_singleton.mp hy]; exact rp_bare rv1, _, rfl, iteF ?_⟩
          have s2t := s2.trans st
          obtain ⟨t1, y1, z1⟩ := isi_of (rv1.keep s2t) (T := "bool") (.inr (.inl rfl))
          refine ⟨_, rfl, Lf, _, _, v, rfl, rfl, SqL.of (st _ _ hLf), at_of (j := 0) rfl rfl, t1, _, y1, z1, _, rfl, t1, _, y1, z1, rfl, _, rfl, iteF' (by rw [decide_eq_true rfl]; rfl) ?_⟩
          exact ⟨_, _, rfl, s1a.trans s2t⟩
        | true =>
          refine iteF ?_
          obtain ⟨u, hu', eu⟩ := isPath_iff.mp hp
          obtain ⟨q, hq, rfl⟩ := List.mem_map.mp hu'
          subst eu
          obtain ⟨dx, D1, D2, N1', N2', k1, k2, eI, _⟩ := id RX1.R.ex
          refine ⟨_, rfl, x, dx, _, rfl, eI, rfl, _, rfl, x, vb, .tup lb, v, _, rfl, RX1.R, rv1, fun q' hq' eq u H2 s2 ru => ?_, fun no => ?_⟩
          rotate_left
          · obtain ⟨q', hq', e1, _⟩ := RR1.row hq
            exact absurd (by rw [e1]) (no q' hq')
          have s2a := s1a.trans s2
          refine ⟨_, rfl, Lr, pps, kvs, rfl, SqL.of (by rw [← exs]; exact s2a _ _ hL15), prk s2a prs, ndk, fun Dn nD => ?_⟩
          have sD := Same.new (o := .dT kvs) nD
          obtain ⟨vS, rS, mS⟩ := hkv q hq
          obtain ⟨pv', xv, rfl, hpv, _⟩ := rv1.tup_inv
          have hv : H1 pv' = some (.tup (pathV q.1)) := by
            cases rv1 with
            | tup e r =>
              rw [e]
              have : ∀ {xs : List V} {u : List Nat}, RpAll K H1 xs (u.map fun (n : Nat) => DT.int (n : Int)) → xs = pathV u := by
                intro xs u h
                induction u generalizing xs with
                | nil => cases h; rfl
                | cons a r ih =>
                  cases h with
                  | cons h1 h2 =>
                    cases h1
                    rw [ih h2]
                    rfl
              rw [this r]
          refine ⟨_, rfl, Dn, vS, rfl, ?_, ?_⟩
          · rw [← val_mem ndk mS]
            exact DGet.t upd_same (by rw [pathV_key]; exact sD _ _ (s2 _ _ hv))
          refine ⟨u, vS, q.2.1, rfl, by rw [← RR1.at_ hq hq' eq]; exact ru.keep sD, (rS.keep s2a).keep sD, pl7 q hq, fun H3 s3 => ⟨_, rfl, iteF ⟨_, _, rfl, (s2a.trans sD).trans s3⟩⟩⟩
      rintro σ Hz ⟨x11, x12, rfl, sz⟩
      obtain ⟨zs, hz, lz⟩ := FL15.ls A1 (by simp)
      refine ⟨_, rfl, pf, _, _, _, rfl, rfl, SqL.of (sz _ _ FL15.ep), at_of (j := 2) rfl rfl, .inl ⟨rfl, _, SqL.of (sz _ _ hz)⟩, A1, _, rfl, rfl, sz _ _ hz, ?_⟩
      have Drz := drw_put (o := .lst []) (Dr15.trans (Drw.of_same Dr15.s sz)) (nF A1 (by simp)) (oF A1 (by simp))
      have RXz := RX9.drw S9 Drz
      have DDz := D9.drw S9 Drz offD
      have raz := RowsA.drw S9 Drz ra9
      have hLz := Drz.k _ _ hL9 offL.1 offL.2
      generalize upd Hz A1 (.lst []) = Hy at Drz RXz DDz raz hLz ⊢
      refine ⟨_, rfl, x, vb, .tup lb, rs, rfl, rr RXz, st9, lrs, fun pg N3 P3 A3 L3 ns3 ps3 bs3 ls3 H20 TG => ?_⟩
      refine ⟨_, rfl, .ref pg, .ref pd, rfl, like (G1 := H20) TG.due (DDz.keep TG.s), fun H21 s21 => ⟨_, rfl, iteT ?_⟩⟩
      have s2z := TG.s.trans s21
      exact ⟨_, rfl, _, rfl, x, Lr, vb, .tup lb, xs, rs, rfl, rr (RXz.keep s2z), s2z _ _ hLz, RowsA.keep s2z raz, fun H22 s22 => k H22⟩
end
end Oh
namespace Oh
open PySem PySem.Spec PyProof.Rows L2
/-- a def as the top has left it -/
structure DefF (K : PySem.W.Frag) (x qual : Str) (st : Stmt) (f : Addr) : Prop where
  ex : ∃ (oc : Value) (od : Option Addr) (kV dc pm : Value) (an : Option Addr) (cd ct : Value) (sl : Array (Option Value)), K.lookup f = some ⟨oc, od, .func (PySem.W.fnOf x qual (defArgs st) (defBody st) (defScope st) .none kV dc pm an cd ct), sl⟩ ∧ PySem.W.codeIn K cd qual = true
  kp : PySem.W.keepIn K (.ref f) = true
theorem DefF.fn {K : PySem.W.Frag} {x qual : Str} {st : Stmt} {f : Addr} (d : DefF K x qual st f) : ∃ fd, Fun K x qual st f fd ∧ ∃ kV dc pm an cd ct, fd = PySem.W.fnOf x qual (defArgs st) (defBody st) (defScope st) .none kV dc pm an cd ct := by
  obtain ⟨⟨oc, od, kV, dc, pm, an, cd, ct, sl, l, c⟩, k⟩ := d
  exact ⟨_, fun_mk l c k, kV, dc, pm, an, cd, ct, rfl⟩
theorem def_mk {K : PySem.W.Frag} {x qual : Str} {st : Stmt} {f : Addr} {oc : Value} {od : Option Addr} {kV dc pm : Value} {an : Option Addr} {cd ct : Value} {sl : Array (Option Value)}
    (l : K.lookup f = some ⟨oc, od, .func (PySem.W.fnOf x qual (defArgs st) (defBody st) (defScope st) .none kV dc pm an cd ct), sl⟩) (c : PySem.W.codeIn K cd qual = true) (k : PySem.W.keepIn K (.ref f) = true) : DefF K x qual st f := ⟨⟨oc, od, kV, dc, pm, an, cd, ct, sl, l, c⟩, k⟩
theorem err_mk {K : PySem.W.Frag} {f1 C N : Addr} {nm q : Str} {bs bm : List Value} {sn : List Str} {sub : List Value} {ab : Bool} {col : Option Bool} {dd : Option Addr} {k0 k1 k2 k3 k5 : Option Value}
    (xL : K.lookup C = some (excClassObj nm q C N bs bm true sn sub ab col dd k0 k1 k2 k3 k5 "ValueError.__new__")) (rf : PySem.HandSPX.refsVE bm = true) (sa : PySem.W.findIn K (.ref C) "__setattr__" = some (some (.builtin "object.__setattr__"))) (ex : PySem.W.subIn K (.ref C) (.type "BaseException") = some true) (ty : PySem.W.typeIn K (.ref C) = some (.type "type"))
    (kC : PySem.W.keepIn K (.ref C) = true) (ga : PySem.W.findIn K (.ref C) "__getattribute__" = some (some (.builtin "BaseException.__getattribute__"))) (gg : PySem.W.findIn K (.ref C) "__getattr__" = some none) (hd : PySem.W.hasDictIn K C = true) (ha : PySem.W.findIn K (.ref C) "__class__" = some (some (.builtin "object.__class__")))
    (hn : PySem.W.specialIn K (.builtin "object.__class__") "__get__" = some (some (.builtin "getset_descriptor.__get__"))) (ht : PySem.W.takesIn K (.builtin "object.__class__") = some true) (hm : PySem.W.mroIn K C (.type "object") = some true) (no : PySem.W.findIn K (.ref C) "what" = some none) (ini : PySem.W.findIn K (.ref C) "__init__" = some (some (.ref f1))) : ErrC K f1 C :=
  ⟨⟨⟨nm, q, N, bs, bm, sn, sub, ab, col, dd, k0, k1, k2, k3, k5, xL, rf⟩, sa, ex, ty, kC⟩, ⟨ga, gg, ex, hd, ha, hn, ht, hm⟩, ⟨ga, gg, ex, hd⟩, no, ini⟩
theorem einit_mk {K : PySem.W.Frag} {f T : Addr} {oc kV dc pm cd ct : Value} {od an : Option Addr} {sl : Array (Option Value)} {o : Obj} {n : Nat} (l : K.lookup f = some ⟨oc, od, .func (PySem.W.fnOf "__init__" "HeardError.__init__" (defArgs sEInit) (defBody sEInit) (defScope sEInit) (.ref T) kV dc pm an cd ct), sl⟩)
    (c : PySem.W.codeIn K cd "HeardError.__init__" = true) (tl : K.lookup T = some o) (od' : o.data = .seq #[.none] n) (k : PySem.W.keepIn K (.ref f) = true) : ∃ fd1, EInit K f fd1 :=
  ⟨_, ⟨oc, od, .ref T, kV, dc, pm, an, cd, ct, sl, rfl, l, c, .inr ⟨(fun z => nomatch z), T, o, [.none], n, rfl, tl, od', .cons rfl .nil⟩, .inl rfl⟩, k⟩
theorem expr_mk {K : PySem.W.Frag} {f T : Addr} {oc kV dc pm cd ct : Value} {od an : Option Addr} {sl : Array (Option Value)} {o : Obj} {n : Nat} {t : Tok} (l : K.lookup f = some ⟨oc, od, .func (PySem.W.fnOf "is_expression" "is_expression" (defArgs sIsExpr) (defBody sIsExpr) (defScope sIsExpr) (.ref T) kV dc pm an cd ct), sl⟩)
    (c : PySem.W.codeIn K cd "is_expression" = true) (tl : K.lookup T = some o) (od' : o.data = .seq #[.int 5 t] n) (k : PySem.W.keepIn K (.ref f) = true) : ∃ fd, ExprF K f fd :=
  ⟨_, ⟨oc, od, .ref T, kV, dc, pm, an, cd, ct, sl, rfl, l, c, .inr ⟨(fun z => nomatch z), T, o, [.int 5 t], n, rfl, tl, od', .cons ⟨t, rfl⟩ .nil⟩, .inl rfl⟩, k⟩
theorem b_expr2 {K : PySem.W.Frag} {f : Addr} {fd : FuncData} (F : ExprF K f fd) : Binds K fd ["value", "deepest"] [] := by
  obtain ⟨ds, r, b⟩ := F.binds1 (ps := ["value", "deepest"]) 2 1 (by decide) rfl fun T kV doc pm an cdv ct us its h1 h2 => match us, its, h1, h2 with | [_, _], [_], _, _ => ⟨_, rfl, rfl⟩
  cases r
  exact b
theorem b_expr1 {K : PySem.W.Frag} {f : Addr} {fd : FuncData} (F : ExprF K f fd) : ∃ ds, Vals [V.int 5] ds ∧ Binds K fd ["value", "deepest"] ds :=
  F.binds1 (ps := ["value", "deepest"]) 1 0 (by decide) rfl fun T kV doc pm an cdv ct us its h1 h2 => match us, its, h1, h2 with | [_], [_], _, _ => ⟨_, rfl, rfl⟩
theorem parts_mk {K : PySem.W.Frag} {w : World} {a : Addr} {es : Array DictEntry} {n : Nat} {t0 t1 t2 t3 t4 : Tok} (l : K.lookup a = some ⟨.type "dict", none, .dict es n, #[]⟩) (kl : PySem.W.KeysLit w.params es.toList) (hk : es.toList.map keyS = partsK.map fun q => some q.1) (lo : (a == sysModules) = false)
    (v0 : PySem.W.nsIn K a "plus" = some (some (.int 2 t0))) (v1 : PySem.W.nsIn K a "minus" = some (some (.int 2 t1))) (v2 : PySem.W.nsIn K a "same" = some (some (.int 2 t2))) (v3 : PySem.W.nsIn K a "less" = some (some (.int 2 t3))) (v4 : PySem.W.nsIn K a "not" = some (some (.int 1 t4))) : WD K w a partsK := by
  refine ⟨⟨es, n, l, kl, hk⟩, lo, ?_⟩
  unfold partsK
  simp only [List.forall_mem_cons]
  exact ⟨⟨_, v0, t0, rfl⟩, ⟨_, v1, t1, rfl⟩, ⟨_, v2, t2, rfl⟩, ⟨_, v3, t3, rfl⟩, ⟨_, v4, t4, rfl⟩, fun _ z => absurd z List.not_mem_nil⟩
theorem checks_mk {K : PySem.W.Frag} {w : World} {a fS fH fW fO fI fR fw : Addr} {es : Array DictEntry} {n : Nat} (l : K.lookup a = some ⟨.type "dict", none, .dict es n, #[]⟩) (kl : PySem.W.KeysLit w.params es.toList) (hk : es.toList.map keyS = (checksK fS fH fW fO fI fR fw).map fun q => some q.1) (lo : (a == sysModules) = false)
    (v0 : PySem.W.nsIn K a "set" = some (some (.ref fS))) (v1 : PySem.W.nsIn K a "tell" = some (some (.ref fS))) (v2 : PySem.W.nsIn K a "hear" = some (some (.ref fH))) (v3 : PySem.W.nsIn K a "wait" = some (some (.ref fW))) (v4 : PySem.W.nsIn K a "open" = some (some (.ref fO))) (v5 : PySem.W.nsIn K a "if" = some (some (.ref fI))) (v6 : PySem.W.nsIn K a "repeat" = some (some (.ref fR))) (v7 : PySem.W.nsIn K a "leave" = some (some (.ref fw))) (v8 : PySem.W.nsIn K a "home" = some (some (.ref fw))) (v9 : PySem.W.nsIn K a "fail" = some (some (.ref fw))) : WD K w a (checksK fS fH fW fO fI fR fw) := by
  refine ⟨⟨es, n, l, kl, hk⟩, lo, ?_⟩
  unfold checksK
  simp only [List.forall_mem_cons]
  exact ⟨⟨_, v0, rfl⟩, ⟨_, v1, rfl⟩, ⟨_, v2, rfl⟩, ⟨_, v3, rfl⟩, ⟨_, v4, rfl⟩, ⟨_, v5, rfl⟩, ⟨_, v6, rfl⟩, ⟨_, v7, rfl⟩, ⟨_, v8, rfl⟩, ⟨_, v9, rfl⟩, fun _ z => absurd z List.not_mem_nil⟩
theorem kept_mk {K : PySem.W.Frag} {kw : Addr} {o : Obj} {its : Array Value} {n : Nat} (l : K.lookup kw = some o) (c : o.cls = .type "tuple") (d : o.data = .seq its n) (z : its.size ≤ sizeLine) (v : Vals keptV its.toList) :
    ∃ (o : Obj) (its : Array Value) (n : Nat), K.lookup kw = some o ∧ o.cls = .type "tuple" ∧ o.data = .seq its n ∧ its.size ≤ sizeLine ∧ Vals keptV its.toList := ⟨o, its, n, l, c, d, z, v⟩
theorem tup_mk {K : PySem.W.Frag} {kw : Addr} {o : Obj} {its : Array Value} {n : Nat} {vs : List V} (l : K.lookup kw = some o) (c : o.cls = .type "tuple") (d : o.data = .seq its n) (z : its.size ≤ sizeLine) (v : Vals vs its.toList) :
    ∃ (o : Obj) (its : Array Value) (n : Nat), K.lookup kw = some o ∧ o.cls = .type "tuple" ∧ o.data = .seq its n ∧ its.size ≤ sizeLine ∧ Vals vs its.toList := ⟨o, its, n, l, c, d, z, v⟩
set_option maxHeartbeats 0 in
theorem all_mk {P : Program} {w : World} {K : PySem.W.Frag} {h : Heap} {mg : Str → Option Value} {fa f1 hR hB hNP f_expr kw pk ck fL f_source f_mixed f_draw f_name f_menu f_expression f_parts f_ways f_simple f_rows f_nested f_statement f_block f_top f_alike f_spoken f_ownNames f_lports f_listed f_once f_due f_ltold f_odd f_lisPath f_refused f_agree f_isInt f_isDigit f_isName f_isBlock f_headOf f_isStmt f_setTell f_isHear f_isWait f_isRow f_isOpen f_isChoice f_isIf f_isRepeat f_isWord f_blocksOf f_namesOf f_namesIn f_portsOf f_first f_isWrong f_deals f_isSound f_quiet f_quietOf f_count f_laid f_check f_isPath f_rinit f_rnames f_rports f_rpaths f_rlines f_rstatement : Addr} {t1 t2 t3 t4 t5 t6 : Tok} (X : K.In h) (G : h.Ns mainGlobals mg) (hfa : mg "law" = some (.ref fa))
    (aL : PySem.W.nsIn K mainGlobals "law" = some (some (.ref fL))) (dL : DefF K "law" "law" sLaw fL)
    (a_source : PySem.W.nsIn K mainGlobals "_law_source" = some (some (.ref f_source))) (d_source : DefF K "_law_source" "_law_source" sSource f_source)
    (a_mixed : PySem.W.nsIn K mainGlobals "_law_mixed" = some (some (.ref f_mixed))) (d_mixed : DefF K "_law_mixed" "_law_mixed" sMixed f_mixed)
    (a_draw : PySem.W.nsIn K mainGlobals "_law_draw" = some (some (.ref f_draw))) (d_draw : DefF K "_law_draw" "_law_draw" sDraw f_draw)
    (a_name : PySem.W.nsIn K mainGlobals "_law_name" = some (some (.ref f_name))) (d_name : DefF K "_law_name" "_law_name" lName f_name)
    (a_menu : PySem.W.nsIn K mainGlobals "_law_menu" = some (some (.ref f_menu))) (d_menu : DefF K "_law_menu" "_law_menu" lMenu f_menu)
    (a_expression : PySem.W.nsIn K mainGlobals "_law_expression" = some (some (.ref f_expression))) (d_expression : DefF K "_law_expression" "_law_expression" lExpression f_expression)
    (a_parts : PySem.W.nsIn K mainGlobals "_law_parts" = some (some (.ref f_parts))) (d_parts : DefF K "_law_parts" "_law_parts" lParts f_parts)
    (a_ways : PySem.W.nsIn K mainGlobals "_law_ways" = some (some (.ref f_ways))) (d_ways : DefF K "_law_ways" "_law_ways" lWays f_ways)
    (a_simple : PySem.W.nsIn K mainGlobals "_law_simple" = some (some (.ref f_simple))) (d_simple : DefF K "_law_simple" "_law_simple" lSimple f_simple)
    (a_rows : PySem.W.nsIn K mainGlobals "_law_rows" = some (some (.ref f_rows))) (d_rows : DefF K "_law_rows" "_law_rows" lRows f_rows)
    (a_nested : PySem.W.nsIn K mainGlobals "_law_nested" = some (some (.ref f_nested))) (d_nested : DefF K "_law_nested" "_law_nested" lNested f_nested)
    (a_statement : PySem.W.nsIn K mainGlobals "_law_statement" = some (some (.ref f_statement))) (d_statement : DefF K "_law_statement" "_law_statement" lStatement f_statement)
    (a_block : PySem.W.nsIn K mainGlobals "_law_block" = some (some (.ref f_block))) (d_block : DefF K "_law_block" "_law_block" lBlock f_block)
    (a_top : PySem.W.nsIn K mainGlobals "_law_top" = some (some (.ref f_top))) (d_top : DefF K "_law_top" "_law_top" lTop f_top)
    (a_alike : PySem.W.nsIn K mainGlobals "_law_alike" = some (some (.ref f_alike))) (d_alike : DefF K "_law_alike" "_law_alike" sAlike f_alike)
    (a_spoken : PySem.W.nsIn K mainGlobals "_law_spoken" = some (some (.ref f_spoken))) (d_spoken : DefF K "_law_spoken" "_law_spoken" lSpoken f_spoken)
    (a_ownNames : PySem.W.nsIn K mainGlobals "_law_own_names" = some (some (.ref f_ownNames))) (d_ownNames : DefF K "_law_own_names" "_law_own_names" lOwnNames f_ownNames)
    (a_lports : PySem.W.nsIn K mainGlobals "_law_ports" = some (some (.ref f_lports))) (d_lports : DefF K "_law_ports" "_law_ports" lPorts f_lports)
    (a_listed : PySem.W.nsIn K mainGlobals "_law_listed" = some (some (.ref f_listed))) (d_listed : DefF K "_law_listed" "_law_listed" lListed f_listed)
    (a_once : PySem.W.nsIn K mainGlobals "_law_once" = some (some (.ref f_once))) (d_once : DefF K "_law_once" "_law_once" lOnce f_once)
    (a_due : PySem.W.nsIn K mainGlobals "_law_due" = some (some (.ref f_due))) (d_due : DefF K "_law_due" "_law_due" lDue f_due)
    (a_ltold : PySem.W.nsIn K mainGlobals "_law_told" = some (some (.ref f_ltold))) (d_ltold : DefF K "_law_told" "_law_told" lTold f_ltold)
    (a_odd : PySem.W.nsIn K mainGlobals "_law_odd_paths" = some (some (.ref f_odd))) (d_odd : DefF K "_law_odd_paths" "_law_odd_paths" lOddPaths f_odd)
    (a_lisPath : PySem.W.nsIn K mainGlobals "_law_is_path" = some (some (.ref f_lisPath))) (d_lisPath : DefF K "_law_is_path" "_law_is_path" lIsPath f_lisPath)
    (a_refused : PySem.W.nsIn K mainGlobals "_law_refused" = some (some (.ref f_refused))) (d_refused : DefF K "_law_refused" "_law_refused" lRefused f_refused)
    (a_agree : PySem.W.nsIn K mainGlobals "_law_statements_agree" = some (some (.ref f_agree))) (d_agree : DefF K "_law_statements_agree" "_law_statements_agree" lStatementsAgree f_agree)
    (a_isInt : PySem.W.nsIn K mainGlobals "is_integer" = some (some (.ref f_isInt))) (d_isInt : DefF K "is_integer" "is_integer" sIsInteger f_isInt)
    (a_isDigit : PySem.W.nsIn K mainGlobals "is_digit" = some (some (.ref f_isDigit))) (d_isDigit : DefF K "is_digit" "is_digit" sIsDigit f_isDigit)
    (a_isName : PySem.W.nsIn K mainGlobals "is_name" = some (some (.ref f_isName))) (d_isName : DefF K "is_name" "is_name" sIsName f_isName)
    (a_isBlock : PySem.W.nsIn K mainGlobals "is_block" = some (some (.ref f_isBlock))) (d_isBlock : DefF K "is_block" "is_block" sIsBlock f_isBlock)
    (a_headOf : PySem.W.nsIn K mainGlobals "head_of" = some (some (.ref f_headOf))) (d_headOf : DefF K "head_of" "head_of" sHeadOf f_headOf)
    (a_isStmt : PySem.W.nsIn K mainGlobals "is_statement" = some (some (.ref f_isStmt))) (d_isStmt : DefF K "is_statement" "is_statement" sIsStatement f_isStmt)
    (a_setTell : PySem.W.nsIn K mainGlobals "_is_set_or_tell" = some (some (.ref f_setTell))) (d_setTell : DefF K "_is_set_or_tell" "_is_set_or_tell" sSetTell f_setTell)
    (a_isHear : PySem.W.nsIn K mainGlobals "_is_hear" = some (some (.ref f_isHear))) (d_isHear : DefF K "_is_hear" "_is_hear" sIsHear f_isHear)
    (a_isWait : PySem.W.nsIn K mainGlobals "_is_wait" = some (some (.ref f_isWait))) (d_isWait : DefF K "_is_wait" "_is_wait" sIsWait f_isWait)
    (a_isRow : PySem.W.nsIn K mainGlobals "_is_row" = some (some (.ref f_isRow))) (d_isRow : DefF K "_is_row" "_is_row" sIsRow f_isRow)
    (a_isOpen : PySem.W.nsIn K mainGlobals "_is_open" = some (some (.ref f_isOpen))) (d_isOpen : DefF K "_is_open" "_is_open" sIsOpen f_isOpen)
    (a_isChoice : PySem.W.nsIn K mainGlobals "_is_choice" = some (some (.ref f_isChoice))) (d_isChoice : DefF K "_is_choice" "_is_choice" sIsChoice f_isChoice)
    (a_isIf : PySem.W.nsIn K mainGlobals "_is_if" = some (some (.ref f_isIf))) (d_isIf : DefF K "_is_if" "_is_if" sIsIf f_isIf)
    (a_isRepeat : PySem.W.nsIn K mainGlobals "_is_repeat" = some (some (.ref f_isRepeat))) (d_isRepeat : DefF K "_is_repeat" "_is_repeat" sIsRepeat f_isRepeat)
    (a_isWord : PySem.W.nsIn K mainGlobals "_is_word" = some (some (.ref f_isWord))) (d_isWord : DefF K "_is_word" "_is_word" sIsWord f_isWord)
    (a_blocksOf : PySem.W.nsIn K mainGlobals "blocks_of" = some (some (.ref f_blocksOf))) (d_blocksOf : DefF K "blocks_of" "blocks_of" sBlocksOf f_blocksOf)
    (a_namesOf : PySem.W.nsIn K mainGlobals "names_of" = some (some (.ref f_namesOf))) (d_namesOf : DefF K "names_of" "names_of" sNames f_namesOf)
    (a_namesIn : PySem.W.nsIn K mainGlobals "_names_in" = some (some (.ref f_namesIn))) (d_namesIn : DefF K "_names_in" "_names_in" sNamesIn f_namesIn)
    (a_portsOf : PySem.W.nsIn K mainGlobals "ports_of" = some (some (.ref f_portsOf))) (d_portsOf : DefF K "ports_of" "ports_of" sPorts f_portsOf)
    (a_first : PySem.W.nsIn K mainGlobals "first_wrong" = some (some (.ref f_first))) (d_first : DefF K "first_wrong" "first_wrong" sFirstWrong f_first)
    (a_isWrong : PySem.W.nsIn K mainGlobals "_is_wrong" = some (some (.ref f_isWrong))) (d_isWrong : DefF K "_is_wrong" "_is_wrong" sIsWrong f_isWrong)
    (a_deals : PySem.W.nsIn K mainGlobals "deals" = some (some (.ref f_deals))) (d_deals : DefF K "deals" "deals" sDeals f_deals)
    (a_isSound : PySem.W.nsIn K mainGlobals "_is_sound" = some (some (.ref f_isSound))) (d_isSound : DefF K "_is_sound" "_is_sound" sIsSound f_isSound)
    (a_quiet : PySem.W.nsIn K mainGlobals "_quiet_ways" = some (some (.ref f_quiet))) (d_quiet : DefF K "_quiet_ways" "_quiet_ways" sQuiet f_quiet)
    (a_quietOf : PySem.W.nsIn K mainGlobals "_quiet_ways_of" = some (some (.ref f_quietOf))) (d_quietOf : DefF K "_quiet_ways_of" "_quiet_ways_of" sQuietOf f_quietOf)
    (a_count : PySem.W.nsIn K mainGlobals "count_statements" = some (some (.ref f_count))) (d_count : DefF K "count_statements" "count_statements" sCount f_count)
    (a_laid : PySem.W.nsIn K mainGlobals "laid_out" = some (some (.ref f_laid))) (d_laid : DefF K "laid_out" "laid_out" sLaid f_laid)
    (a_check : PySem.W.nsIn K mainGlobals "_check" = some (some (.ref f_check))) (d_check : DefF K "_check" "_check" sCheck f_check)
    (a_isPath : PySem.W.nsIn K mainGlobals "is_path" = some (some (.ref f_isPath))) (d_isPath : DefF K "is_path" "is_path" sIsPath f_isPath)
    (d_rinit : DefF K "__init__" "Routine.__init__" sRInit f_rinit)
    (d_rnames : DefF K "names" "Routine.names" sRNames f_rnames)
    (d_rports : DefF K "ports" "Routine.ports" sRPorts f_rports)
    (d_rpaths : DefF K "paths" "Routine.paths" sRPaths f_rpaths)
    (d_rlines : DefF K "open_lines" "Routine.open_lines" sRLines f_rlines)
    (d_rstatement : DefF K "statement" "Routine.statement" sRStatement f_rstatement)
    (aX : PySem.W.nsIn K mainGlobals "is_expression" = some (some (.ref f_expr))) (dX : ∃ fd, ExprF K f_expr fd)
    (d1 : ∃ fd1, EInit K f1 fd1) (t0 : PySem.W.typeIn K (.ref f1) = some (.type "function"))
    (aB : PySem.W.nsIn K mainGlobals "BadRoutine" = some (some (.ref hB))) (eB : ErrC K f1 hB) (teB : PySem.W.exmOne K (.ref hB) (.ref hB) = some true)
    (aNP : PySem.W.nsIn K mainGlobals "NoPath" = some (some (.ref hNP))) (eNP : ErrC K f1 hNP) (teNP : PySem.W.exmOne K (.ref hNP) (.ref hNP) = some true)
    (aRo : PySem.W.nsIn K mainGlobals "Routine" = some (some (.ref hR))) (rc : RCls K hR) (mkR : Mk K hR f_rinit) (mn : Meth K hR "names" f_rnames) (mp : Meth K hR "ports" f_rports) (ma : Meth K hR "paths" f_rpaths) (ml : Meth K hR "open_lines" f_rlines) (ms : Meth K hR "statement" f_rstatement)
    (aP : PySem.W.nsIn K mainGlobals "PARTS" = some (some (.ref pk))) (wp : WD K w pk partsK) (aC : PySem.W.nsIn K mainGlobals "CHECKS" = some (some (.ref ck))) (wc : WD K w ck (checksK f_setTell f_isHear f_isWait f_isOpen f_isIf f_isRepeat f_isWord))
    (aK : PySem.W.nsIn K mainGlobals "KEPT_WORDS" = some (some (.ref kw))) (kk : ∃ (o : Obj) (its : Array Value) (n : Nat), K.lookup kw = some o ∧ o.cls = .type "tuple" ∧ o.data = .seq its n ∧ its.size ≤ sizeLine ∧ Vals keptV its.toList)
    (g1 : PySem.W.nsIn K mainGlobals "LONGEST_BLOCK" = some (some (.int 12 t1))) (g2 : PySem.W.nsIn K mainGlobals "DEEPEST_BLOCK" = some (some (.int 12 t2))) (g3 : PySem.W.nsIn K mainGlobals "MOST_STATEMENTS" = some (some (.int 6000 t3))) (g4 : PySem.W.nsIn K mainGlobals "LONGEST_NAME" = some (some (.int 8 t4))) (g5 : PySem.W.nsIn K mainGlobals "MOST_CHOICES" = some (some (.int 4 t5))) (g6 : PySem.W.nsIn K mainGlobals "LONGEST_PATH" = some (some (.int 23 t6)))
    (z0 : PySem.W.nsIn K mainGlobals "int" = some none) (z1 : PySem.W.nsIn K mainGlobals "len" = some none) (z2 : PySem.W.nsIn K mainGlobals "sum" = some none) (z3 : PySem.W.nsIn K mainGlobals "range" = some none) (z4 : PySem.W.nsIn K mainGlobals "tuple" = some none) (z5 : PySem.W.nsIn K mainGlobals "isinstance" = some none) (z6 : PySem.W.nsIn K mainGlobals "bool" = some none) (z7 : PySem.W.nsIn K mainGlobals "str" = some none) (z8 : PySem.W.nsIn K mainGlobals "list" = some none) (z9 : PySem.W.nsIn K mainGlobals "dict" = some none) (z10 : PySem.W.nsIn K mainGlobals "enumerate" = some none) (z11 : PySem.W.nsIn K mainGlobals "sorted" = some none) (z12 : PySem.W.nsIn K mainGlobals "all" = some none) (z13 : PySem.W.nsIn K mainGlobals "any" = some none) (z14 : PySem.W.nsIn K mainGlobals "reversed" = some none) :
    ∃ fd : FuncData, (∀ (s : Shared) (v : Value), BindsTo s fd ⟨[v], []⟩ [("_law_script", v)]) ∧ ∀ base : Heap, K.In base → base.Ns mainGlobals mg → FnOk P w K mg base CX0 132 fa fd ["_law_script"] (spLaw K) := by
  have e := hfa.symm.trans (PySem.W.mg_of X G aL)
  cases e
  have mn_int := PySem.W.mg_none_of X G z0
  have mn_len := PySem.W.mg_none_of X G z1
  have mn_sum := PySem.W.mg_none_of X G z2
  have mn_range := PySem.W.mg_none_of X G z3
  have mn_tuple := PySem.W.mg_none_of X G z4
  have mn_isinstance := PySem.W.mg_none_of X G z5
  have mn_bool := PySem.W.mg_none_of X G z6
  have mn_str := PySem.W.mg_none_of X G z7
  have mn_list := PySem.W.mg_none_of X G z8
  have mn_dict := PySem.W.mg_none_of X G z9
  have mn_enumerate := PySem.W.mg_none_of X G z10
  have mn_sorted := PySem.W.mg_none_of X G z11
  have mn_all := PySem.W.mg_none_of X G z12
  have mn_any := PySem.W.mg_none_of X G z13
  have mn_reversed := PySem.W.mg_none_of X G z14
  have TA : TxtA mg := ⟨mn_int, mn_len⟩
  have TO : TxtO mg := ⟨TA, mn_range, mn_tuple⟩
  have TI : TxtI mg := ⟨mn_isinstance, mn_bool, mn_int, mn_str, mn_tuple, mn_list, mn_dict, mn_len, mn_range⟩
  have TP : TxtP mg := ⟨TI, ⟨t1, PySem.W.mg_of X G g1⟩, ⟨t2, PySem.W.mg_of X G g2⟩, ⟨t3, PySem.W.mg_of X G g3⟩, mn_sum, mn_enumerate⟩
  have TF : TxtF K mg kw := ⟨TI, mn_all, ⟨t4, PySem.W.mg_of X G g4⟩, ⟨t5, PySem.W.mg_of X G g5⟩, PySem.W.mg_of X G aK, kk⟩
  obtain ⟨fd1, F1⟩ := d1
  obtain ⟨fdX, FX⟩ := dX
  have bX := b_expr2 FX
  obtain ⟨dsX, vX, bX1⟩ := b_expr1 FX
  have mX := PySem.W.mg_of X G aX
  have mRo := PySem.W.mg_of X G aRo
  have mP := PySem.W.mg_of X G aP
  have mC := PySem.W.mg_of X G aC
  have mB := PySem.W.mg_of X G aB
  have mNP := PySem.W.mg_of X G aNP
  obtain ⟨fd_source, F_source, _⟩ := d_source.fn
  have b_source : Binds K fd_source ["_law_script"] [] := F_source.binds fun _ _ _ _ _ _ us hl => match us, hl with | [_], _ => rfl
  obtain ⟨fd_mixed, F_mixed, _⟩ := d_mixed.fn
  have b_mixed : Binds K fd_mixed ["_law_number", "_law_count"] [] := F_mixed.binds fun _ _ _ _ _ _ us hl => match us, hl with | [_, _], _ => rfl
  obtain ⟨fd_draw, F_draw, _⟩ := d_draw.fn
  have b_draw : Binds K fd_draw ["_law_source_here", "_law_many"] [] := F_draw.binds fun _ _ _ _ _ _ us hl => match us, hl with | [_, _], _ => rfl
  obtain ⟨fd_name, F_name, _⟩ := d_name.fn
  have b_name : Binds K fd_name ["_law_source_here"] [] := F_name.binds fun _ _ _ _ _ _ us hl => match us, hl with | [_], _ => rfl
  obtain ⟨fd_menu, F_menu, _⟩ := d_menu.fn
  have b_menu : Binds K fd_menu ["_law_source_here"] [] := F_menu.binds fun _ _ _ _ _ _ us hl => match us, hl with | [_], _ => rfl
  obtain ⟨fd_expression, F_expression, _⟩ := d_expression.fn
  have b_expression : Binds K fd_expression ["_law_source_here", "_law_names", "_law_deep"] [] := F_expression.binds fun _ _ _ _ _ _ us hl => match us, hl with | [_, _, _], _ => rfl
  obtain ⟨fd_parts, F_parts, _⟩ := d_parts.fn
  have b_parts : Binds K fd_parts ["_law_statement_here"] [] := F_parts.binds fun _ _ _ _ _ _ us hl => match us, hl with | [_], _ => rfl
  obtain ⟨fd_ways, F_ways, _⟩ := d_ways.fn
  have b_ways : Binds K fd_ways ["_law_block_here"] [] := F_ways.binds fun _ _ _ _ _ _ us hl => match us, hl with | [_], _ => rfl
  obtain ⟨fd_simple, F_simple, _⟩ := d_simple.fn
  have b_simple : Binds K fd_simple ["_law_source_here", "_law_menu_here", "_law_kind"] [] := F_simple.binds fun _ _ _ _ _ _ us hl => match us, hl with | [_, _, _], _ => rfl
  obtain ⟨fd_rows, F_rows, _⟩ := d_rows.fn
  have b_rows : Binds K fd_rows ["_law_source_here", "_law_menu_here", "_law_room", "_law_depth", "_law_looped"] [] := F_rows.binds fun _ _ _ _ _ _ us hl => match us, hl with | [_, _, _, _, _], _ => rfl
  obtain ⟨fd_nested, F_nested, _⟩ := d_nested.fn
  have b_nested : Binds K fd_nested ["_law_source_here", "_law_menu_here", "_law_room", "_law_depth", "_law_looped"] [] := F_nested.binds fun _ _ _ _ _ _ us hl => match us, hl with | [_, _, _, _, _], _ => rfl
  obtain ⟨fd_statement, F_statement, _⟩ := d_statement.fn
  have b_statement : Binds K fd_statement ["_law_source_here", "_law_menu_here", "_law_room", "_law_depth", "_law_looped"] [] := F_statement.binds fun _ _ _ _ _ _ us hl => match us, hl with | [_, _, _, _, _], _ => rfl
  obtain ⟨fd_block, F_block, _⟩ := d_block.fn
  have b_block : Binds K fd_block ["_law_source_here", "_law_menu_here", "_law_room", "_law_depth", "_law_looped"] [] := F_block.binds fun _ _ _ _ _ _ us hl => match us, hl with | [_, _, _, _, _], _ => rfl
  obtain ⟨fd_top, F_top, _⟩ := d_top.fn
  have b_top : Binds K fd_top ["_law_source_here", "_law_menu_here"] [] := F_top.binds fun _ _ _ _ _ _ us hl => match us, hl with | [_, _], _ => rfl
  obtain ⟨fd_alike, F_alike, _⟩ := d_alike.fn
  have b_alike : Binds K fd_alike ["_law_actual", "_law_due_here"] [] := F_alike.binds fun _ _ _ _ _ _ us hl => match us, hl with | [_, _], _ => rfl
  obtain ⟨fd_spoken, F_spoken, _⟩ := d_spoken.fn
  have b_spoken : Binds K fd_spoken ["_law_expression_here"] [] := F_spoken.binds fun _ _ _ _ _ _ us hl => match us, hl with | [_], _ => rfl
  obtain ⟨fd_ownNames, F_ownNames, _⟩ := d_ownNames.fn
  have b_ownNames : Binds K fd_ownNames ["_law_statement_here"] [] := F_ownNames.binds fun _ _ _ _ _ _ us hl => match us, hl with | [_], _ => rfl
  obtain ⟨fd_lports, F_lports, _⟩ := d_lports.fn
  have b_lports : Binds K fd_lports ["_law_statement_here"] [] := F_lports.binds fun _ _ _ _ _ _ us hl => match us, hl with | [_], _ => rfl
  obtain ⟨fd_listed, F_listed, _⟩ := d_listed.fn
  have b_listed : Binds K fd_listed ["_law_block_here"] [] := F_listed.binds fun _ _ _ _ _ _ us hl => match us, hl with | [_], _ => rfl
  obtain ⟨fd_once, F_once, _⟩ := d_once.fn
  have b_once : Binds K fd_once ["_law_items"] [] := F_once.binds fun _ _ _ _ _ _ us hl => match us, hl with | [_], _ => rfl
  obtain ⟨fd_due, F_due, _⟩ := d_due.fn
  have b_due : Binds K fd_due ["_law_block_here"] [] := F_due.binds fun _ _ _ _ _ _ us hl => match us, hl with | [_], _ => rfl
  obtain ⟨fd_ltold, F_ltold, _⟩ := d_ltold.fn
  have b_ltold : Binds K fd_ltold ["_law_routine"] [] := F_ltold.binds fun _ _ _ _ _ _ us hl => match us, hl with | [_], _ => rfl
  obtain ⟨fd_odd, F_odd, _⟩ := d_odd.fn
  have b_odd : Binds K fd_odd ["_law_source_here", "_law_path", "_law_other"] [] := F_odd.binds fun _ _ _ _ _ _ us hl => match us, hl with | [_, _, _], _ => rfl
  obtain ⟨fd_lisPath, F_lisPath, _⟩ := d_lisPath.fn
  have b_lisPath : Binds K fd_lisPath ["_law_value", "_law_paths"] [] := F_lisPath.binds fun _ _ _ _ _ _ us hl => match us, hl with | [_, _], _ => rfl
  obtain ⟨fd_refused, F_refused, _⟩ := d_refused.fn
  have b_refused : Binds K fd_refused ["_law_routine", "_law_value"] [] := F_refused.binds fun _ _ _ _ _ _ us hl => match us, hl with | [_, _], _ => rfl
  obtain ⟨fd_agree, F_agree, _⟩ := d_agree.fn
  have b_agree : Binds K fd_agree ["_law_routine", "_law_rows_here"] [] := F_agree.binds fun _ _ _ _ _ _ us hl => match us, hl with | [_, _], _ => rfl
  obtain ⟨fd_isInt, F_isInt, _⟩ := d_isInt.fn
  have b_isInt : Binds K fd_isInt ["value"] [] := F_isInt.binds fun _ _ _ _ _ _ us hl => match us, hl with | [_], _ => rfl
  obtain ⟨fd_isDigit, F_isDigit, _⟩ := d_isDigit.fn
  have b_isDigit : Binds K fd_isDigit ["value"] [] := F_isDigit.binds fun _ _ _ _ _ _ us hl => match us, hl with | [_], _ => rfl
  obtain ⟨fd_isName, F_isName, _⟩ := d_isName.fn
  have b_isName : Binds K fd_isName ["value"] [] := F_isName.binds fun _ _ _ _ _ _ us hl => match us, hl with | [_], _ => rfl
  obtain ⟨fd_isBlock, F_isBlock, _⟩ := d_isBlock.fn
  have b_isBlock : Binds K fd_isBlock ["value"] [] := F_isBlock.binds fun _ _ _ _ _ _ us hl => match us, hl with | [_], _ => rfl
  obtain ⟨fd_headOf, F_headOf, _⟩ := d_headOf.fn
  have b_headOf : Binds K fd_headOf ["value"] [] := F_headOf.binds fun _ _ _ _ _ _ us hl => match us, hl with | [_], _ => rfl
  obtain ⟨fd_isStmt, F_isStmt, _⟩ := d_isStmt.fn
  have b_isStmt : Binds K fd_isStmt ["value"] [] := F_isStmt.binds fun _ _ _ _ _ _ us hl => match us, hl with | [_], _ => rfl
  obtain ⟨fd_setTell, F_setTell, _⟩ := d_setTell.fn
  have b_setTell : Binds K fd_setTell ["value"] [] := F_setTell.binds fun _ _ _ _ _ _ us hl => match us, hl with | [_], _ => rfl
  obtain ⟨fd_isHear, F_isHear, _⟩ := d_isHear.fn
  have b_isHear : Binds K fd_isHear ["value"] [] := F_isHear.binds fun _ _ _ _ _ _ us hl => match us, hl with | [_], _ => rfl
  obtain ⟨fd_isWait, F_isWait, _⟩ := d_isWait.fn
  have b_isWait : Binds K fd_isWait ["value"] [] := F_isWait.binds fun _ _ _ _ _ _ us hl => match us, hl with | [_], _ => rfl
  obtain ⟨fd_isRow, F_isRow, _⟩ := d_isRow.fn
  have b_isRow : Binds K fd_isRow ["value"] [] := F_isRow.binds fun _ _ _ _ _ _ us hl => match us, hl with | [_], _ => rfl
  obtain ⟨fd_isOpen, F_isOpen, _⟩ := d_isOpen.fn
  have b_isOpen : Binds K fd_isOpen ["value"] [] := F_isOpen.binds fun _ _ _ _ _ _ us hl => match us, hl with | [_], _ => rfl
  obtain ⟨fd_isChoice, F_isChoice, _⟩ := d_isChoice.fn
  have b_isChoice : Binds K fd_isChoice ["value"] [] := F_isChoice.binds fun _ _ _ _ _ _ us hl => match us, hl with | [_], _ => rfl
  obtain ⟨fd_isIf, F_isIf, _⟩ := d_isIf.fn
  have b_isIf : Binds K fd_isIf ["value"] [] := F_isIf.binds fun _ _ _ _ _ _ us hl => match us, hl with | [_], _ => rfl
  obtain ⟨fd_isRepeat, F_isRepeat, _⟩ := d_isRepeat.fn
  have b_isRepeat : Binds K fd_isRepeat ["value"] [] := F_isRepeat.binds fun _ _ _ _ _ _ us hl => match us, hl with | [_], _ => rfl
  obtain ⟨fd_isWord, F_isWord, _⟩ := d_isWord.fn
  have b_isWord : Binds K fd_isWord ["value"] [] := F_isWord.binds fun _ _ _ _ _ _ us hl => match us, hl with | [_], _ => rfl
  obtain ⟨fd_blocksOf, F_blocksOf, _⟩ := d_blocksOf.fn
  have b_blocksOf : Binds K fd_blocksOf ["statement"] [] := F_blocksOf.binds fun _ _ _ _ _ _ us hl => match us, hl with | [_], _ => rfl
  obtain ⟨fd_namesOf, F_namesOf, _⟩ := d_namesOf.fn
  have b_namesOf : Binds K fd_namesOf ["statement"] [] := F_namesOf.binds fun _ _ _ _ _ _ us hl => match us, hl with | [_], _ => rfl
  obtain ⟨fd_namesIn, F_namesIn, _⟩ := d_namesIn.fn
  have b_namesIn : Binds K fd_namesIn ["expression"] [] := F_namesIn.binds fun _ _ _ _ _ _ us hl => match us, hl with | [_], _ => rfl
  obtain ⟨fd_portsOf, F_portsOf, _⟩ := d_portsOf.fn
  have b_portsOf : Binds K fd_portsOf ["statement"] [] := F_portsOf.binds fun _ _ _ _ _ _ us hl => match us, hl with | [_], _ => rfl
  obtain ⟨fd_first, F_first, _⟩ := d_first.fn
  have b_first : Binds K fd_first ["block", "path", "depth", "in_repeat"] [] := F_first.binds fun _ _ _ _ _ _ us hl => match us, hl with | [_, _, _, _], _ => rfl
  obtain ⟨fd_isWrong, F_isWrong, _⟩ := d_isWrong.fn
  have b_isWrong : Binds K fd_isWrong ["item", "depth", "in_repeat"] [] := F_isWrong.binds fun _ _ _ _ _ _ us hl => match us, hl with | [_, _, _], _ => rfl
  obtain ⟨fd_deals, F_deals, _⟩ := d_deals.fn
  have b_deals : Binds K fd_deals ["block", "depth"] [] := F_deals.binds fun _ _ _ _ _ _ us hl => match us, hl with | [_, _], _ => rfl
  obtain ⟨fd_isSound, F_isSound, _⟩ := d_isSound.fn
  have b_isSound : Binds K fd_isSound ["item", "depth"] [] := F_isSound.binds fun _ _ _ _ _ _ us hl => match us, hl with | [_, _], _ => rfl
  obtain ⟨fd_quiet, F_quiet, _⟩ := d_quiet.fn
  have b_quiet : Binds K fd_quiet ["block", "depth"] [] := F_quiet.binds fun _ _ _ _ _ _ us hl => match us, hl with | [_, _], _ => rfl
  obtain ⟨fd_quietOf, F_quietOf, _⟩ := d_quietOf.fn
  have b_quietOf : Binds K fd_quietOf ["item", "depth"] [] := F_quietOf.binds fun _ _ _ _ _ _ us hl => match us, hl with | [_, _], _ => rfl
  obtain ⟨fd_count, F_count, _⟩ := d_count.fn
  have b_count : Binds K fd_count ["block"] [] := F_count.binds fun _ _ _ _ _ _ us hl => match us, hl with | [_], _ => rfl
  obtain ⟨fd_laid, F_laid, _⟩ := d_laid.fn
  have b_laid : Binds K fd_laid ["block", "path", "behind", "outside"] [] := F_laid.binds fun _ _ _ _ _ _ us hl => match us, hl with | [_, _, _, _], _ => rfl
  obtain ⟨fd_check, F_check, _⟩ := d_check.fn
  have b_check : Binds K fd_check ["block"] [] := F_check.binds fun _ _ _ _ _ _ us hl => match us, hl with | [_], _ => rfl
  obtain ⟨fd_isPath, F_isPath, _⟩ := d_isPath.fn
  have b_isPath : Binds K fd_isPath ["value"] [] := F_isPath.binds fun _ _ _ _ _ _ us hl => match us, hl with | [_], _ => rfl
  obtain ⟨fd_rinit, F_rinit, _⟩ := d_rinit.fn
  have b_rinit : Binds K fd_rinit ["self", "block"] [] := F_rinit.binds fun _ _ _ _ _ _ us hl => match us, hl with | [_, _], _ => rfl
  obtain ⟨fd_rnames, F_rnames, _⟩ := d_rnames.fn
  have b_rnames : Binds K fd_rnames ["self"] [] := F_rnames.binds fun _ _ _ _ _ _ us hl => match us, hl with | [_], _ => rfl
  obtain ⟨fd_rports, F_rports, _⟩ := d_rports.fn
  have b_rports : Binds K fd_rports ["self"] [] := F_rports.binds fun _ _ _ _ _ _ us hl => match us, hl with | [_], _ => rfl
  obtain ⟨fd_rpaths, F_rpaths, _⟩ := d_rpaths.fn
  have b_rpaths : Binds K fd_rpaths ["self"] [] := F_rpaths.binds fun _ _ _ _ _ _ us hl => match us, hl with | [_], _ => rfl
  obtain ⟨fd_rlines, F_rlines, _⟩ := d_rlines.fn
  have b_rlines : Binds K fd_rlines ["self"] [] := F_rlines.binds fun _ _ _ _ _ _ us hl => match us, hl with | [_], _ => rfl
  obtain ⟨fd_rstatement, F_rstatement, _⟩ := d_rstatement.fn
  have b_rstatement : Binds K fd_rstatement ["self", "path"] [] := F_rstatement.binds fun _ _ _ _ _ _ us hl => match us, hl with | [_, _], _ => rfl
  have m_source := PySem.W.mg_of X G a_source
  have m_mixed := PySem.W.mg_of X G a_mixed
  have m_draw := PySem.W.mg_of X G a_draw
  have m_name := PySem.W.mg_of X G a_name
  have m_menu := PySem.W.mg_of X G a_menu
  have m_expression := PySem.W.mg_of X G a_expression
  have m_parts := PySem.W.mg_of X G a_parts
  have m_ways := PySem.W.mg_of X G a_ways
  have m_simple := PySem.W.mg_of X G a_simple
  have m_rows := PySem.W.mg_of X G a_rows
  have m_nested := PySem.W.mg_of X G a_nested
  have m_statement := PySem.W.mg_of X G a_statement
  have m_block := PySem.W.mg_of X G a_block
  have m_top := PySem.W.mg_of X G a_top
  have m_alike := PySem.W.mg_of X G a_alike
  have m_spoken := PySem.W.mg_of X G a_spoken
  have m_ownNames := PySem.W.mg_of X G a_ownNames
  have m_lports := PySem.W.mg_of X G a_lports
  have m_listed := PySem.W.mg_of X G a_listed
  have m_once := PySem.W.mg_of X G a_once
  have m_due := PySem.W.mg_of X G a_due
  have m_ltold := PySem.W.mg_of X G a_ltold
  have m_odd := PySem.W.mg_of X G a_odd
  have m_lisPath := PySem.W.mg_of X G a_lisPath
  have m_refused := PySem.W.mg_of X G a_refused
  have m_agree := PySem.W.mg_of X G a_agree
  have m_isInt := PySem.W.mg_of X G a_isInt
  have m_isDigit := PySem.W.mg_of X G a_isDigit
  have m_isName := PySem.W.mg_of X G a_isName
  have m_isBlock := PySem.W.mg_of X G a_isBlock
  have m_headOf := PySem.W.mg_of X G a_headOf
  have m_isStmt := PySem.W.mg_of X G a_isStmt
  have m_setTell := PySem.W.mg_of X G a_setTell
  have m_isHear := PySem.W.mg_of X G a_isHear
  have m_isWait := PySem.W.mg_of X G a_isWait
  have m_isRow := PySem.W.mg_of X G a_isRow
  have m_isOpen := PySem.W.mg_of X G a_isOpen
  have m_isChoice := PySem.W.mg_of X G a_isChoice
  have m_isIf := PySem.W.mg_of X G a_isIf
  have m_isRepeat := PySem.W.mg_of X G a_isRepeat
  have m_isWord := PySem.W.mg_of X G a_isWord
  have m_blocksOf := PySem.W.mg_of X G a_blocksOf
  have m_namesOf := PySem.W.mg_of X G a_namesOf
  have m_namesIn := PySem.W.mg_of X G a_namesIn
  have m_portsOf := PySem.W.mg_of X G a_portsOf
  have m_first := PySem.W.mg_of X G a_first
  have m_isWrong := PySem.W.mg_of X G a_isWrong
  have m_deals := PySem.W.mg_of X G a_deals
  have m_isSound := PySem.W.mg_of X G a_isSound
  have m_quiet := PySem.W.mg_of X G a_quiet
  have m_quietOf := PySem.W.mg_of X G a_quietOf
  have m_count := PySem.W.mg_of X G a_count
  have m_laid := PySem.W.mg_of X G a_laid
  have m_check := PySem.W.mg_of X G a_check
  have m_isPath := PySem.W.mg_of X G a_isPath
  obtain ⟨fdL, FL, kVL, dcL, pmL, anL, cdL, ctL, rfl⟩ := dL.fn
  refine ⟨PySem.W.fnOf "law" "law" (defArgs sLaw) (defBody sLaw) (defScope sLaw) .none kVL dcL pmL anL cdL ctL, fun s v => .of_eq rfl, fun base _ _ => ?_⟩
  have G_draw : FnOk P w K mg base CX0 2 f_draw fd_draw ["_law_source_here", "_law_many"] (spDraw) := ok_draw F_draw TA F_mixed b_mixed m_mixed
  have G_isInt : FnOk P w K mg base CX0 1 f_isInt fd_isInt ["value"] (spB K intB) := ok_isInteger F_isInt TI
  have G_isDigit : FnOk P w K mg base CX0 2 f_isDigit fd_isDigit ["value"] (spB K digitB) := ok_isDigit F_isDigit G_isInt F_isInt.kp b_isInt m_isInt
  have G_isName : FnOk P w K mg base CX0 1 f_isName fd_isName ["value"] (spB K nameB) := ok_isName F_isName TF
  have G_headOf : FnOk P w K mg base CX0 1 f_headOf fd_headOf ["value"] (spHd K) := ok_headOfD F_headOf TI
  have G_isBlock : FnOk P w K mg base CX0 1 f_isBlock fd_isBlock ["value"] (spB K blockB) := ok_isBlockD F_isBlock TP
  have G_isChoice : FnOk P w K mg base CX0 1 f_isChoice fd_isChoice ["value"] (spB K choiceB) := ok_isChoice F_isChoice TF
  have GX : FnOk P w K mg base CX0 7 f_expr fdX ["value", "deepest"] (spExpr K 4) := ok_expr FX TF G_isDigit F_isDigit.kp b_isDigit m_isDigit G_headOf F_headOf.kp b_headOf m_headOf G_isName F_isName.kp b_isName m_isName mP wp mX bX 4
  have C_setTell : Chk P w K mg base f_setTell setTellB := ⟨⟨fd_setTell, ok_setTell F_setTell TF G_isName F_isName.kp b_isName m_isName GX FX.kp vX bX1 mX, b_setTell⟩, F_setTell.kp⟩
  have C_isHear : Chk P w K mg base f_isHear hearB := ⟨⟨fd_isHear, ok_isHear F_isHear TF G_isName F_isName.kp b_isName m_isName, b_isHear⟩, F_isHear.kp⟩
  have G_isRow : FnOk P w K mg base CX0 2 f_isRow fd_isRow ["value"] (spB K rowB) := ok_isRow F_isRow TF G_isName F_isName.kp b_isName m_isName G_isBlock F_isBlock.kp b_isBlock m_isBlock
  have C_isWait : Chk P w K mg base f_isWait waitB := ⟨⟨fd_isWait, ok_isWait F_isWait TF G_isChoice F_isChoice.kp b_isChoice m_isChoice G_isRow F_isRow.kp b_isRow m_isRow, b_isWait⟩, F_isWait.kp⟩
  have C_isOpen : Chk P w K mg base f_isOpen openB := ⟨⟨fd_isOpen, ok_isOpen F_isOpen TF G_isBlock F_isBlock.kp b_isBlock m_isBlock G_isChoice F_isChoice.kp b_isChoice m_isChoice, b_isOpen⟩, F_isOpen.kp⟩
  have C_isIf : Chk P w K mg base f_isIf ifB := ⟨⟨fd_isIf, ok_isIf F_isIf TF G_isBlock F_isBlock.kp b_isBlock m_isBlock GX FX.kp vX bX1 mX, b_isIf⟩, F_isIf.kp⟩
  have C_isRepeat : Chk P w K mg base f_isRepeat repeatB := ⟨⟨fd_isRepeat, ok_isRepeat F_isRepeat TF G_isBlock F_isBlock.kp b_isBlock m_isBlock, b_isRepeat⟩, F_isRepeat.kp⟩
  have C_isWord : Chk P w K mg base f_isWord wordB := ⟨⟨fd_isWord, ok_isWordD F_isWord TF, b_isWord⟩, F_isWord.kp⟩
  have G_isStmt : FnOk P w K mg base CX0 9 f_isStmt fd_isStmt ["value"] (spB K stmtB) := ok_isStatementD F_isStmt G_headOf F_headOf.kp b_headOf m_headOf mC wc C_setTell C_isHear C_isWait C_isOpen C_isIf C_isRepeat C_isWord
  have G_blocksOf : FnOk P w K mg base CX0 1 f_blocksOf fd_blocksOf ["statement"] (spBlocks K) := ok_blocksD F_blocksOf TI
  have G_isSound : FnOk P w K mg base CX0 10 f_isSound fd_isSound ["item", "depth"] (spSoundD K) := ok_isSoundD F_isSound TP G_isStmt F_isStmt.kp b_isStmt m_isStmt G_blocksOf F_blocksOf.kp b_blocksOf m_blocksOf
  have G_quiet : ∀ f, FnOk P w K mg base CX0 (12 + 2 * f) f_quiet fd_quiet ["block", "depth"] (spQuiet K f) := ok_quiet F_quietOf F_quiet mn_any G_isSound F_isSound.kp b_isSound m_isSound G_blocksOf F_blocksOf.kp b_blocksOf m_blocksOf b_quiet m_quiet b_quietOf m_quietOf
  have G_first : FnOk P w K mg base CX0 35 f_first fd_first ["block", "path", "depth", "in_repeat"] (spFirstD K 11) := ok_firstD F_first TP F_isWrong G_isSound F_isSound.kp b_isSound m_isSound G_quiet F_quiet.kp b_quiet m_quiet F_deals b_deals m_deals b_isWrong m_isWrong G_blocksOf F_blocksOf.kp b_blocksOf m_blocksOf b_first m_first 11
  have G_count : FnOk P w K mg base CX0 13 f_count fd_count ["block"] (spCountD K 11) := ok_countD F_count TP G_blocksOf F_blocksOf.kp b_blocksOf m_blocksOf b_count m_count 11
  have G_laid : FnOk P w K mg base CX0 13 f_laid fd_laid ["block", "path", "behind", "outside"] (spLay K 11) := ok_layD F_laid TP G_blocksOf F_blocksOf.kp b_blocksOf m_blocksOf b_laid m_laid 11
  have G_namesIn : FnOk P w K mg base CX0 7 f_namesIn fd_namesIn ["expression"] (spNamesX K 4) := ok_namesIn F_namesIn G_isDigit F_isDigit.kp b_isDigit m_isDigit b_namesIn m_namesIn 4 (by omega)
  have G_namesOf : FnOk P w K mg base CX0 8 f_namesOf fd_namesOf ["statement"] (spStrs K namesB) := ok_namesD F_namesOf G_namesIn F_namesIn.kp b_namesIn m_namesIn
  have G_portsOf : FnOk P w K mg base CX0 1 f_portsOf fd_portsOf ["statement"] (spStrs K portsB) := ok_portsD F_portsOf
  have G_check : FnOk P w K mg base (L2.CX P w) 36 f_check fd_check ["block"] (spCheckD K hB) := ok_checkD F_check TP eB t0 F1 mB G_isBlock F_isBlock.kp b_isBlock m_isBlock G_first F_first.kp b_first m_first G_count F_count.kp b_count m_count
  have G_rinit : FnOk P w K mg base (L2.CX P w) 37 f_rinit fd_rinit ["self", "block"] (spInitD K hR hB) := ok_rinitD F_rinit rc mn_sorted G_check F_check.kp b_check m_check G_laid F_laid.kp b_laid m_laid G_namesOf F_namesOf.kp b_namesOf m_namesOf G_portsOf F_portsOf.kp b_portsOf m_portsOf
  have G_isPath : FnOk P w K mg base CX0 2 f_isPath fd_isPath ["value"] (spB K pathFormB) := ok_isPath F_isPath TF ⟨t6, PySem.W.mg_of X G g6⟩ G_isInt F_isInt.kp b_isInt m_isInt
  have G_rnames : FnOk P w K mg base CX0 1 f_rnames fd_rnames ["self"] (spAsc K hR namesB) := ok_names F_rnames rc mn_list
  have G_rstatement : FnOk P w K mg base (L2.CX P w) 3 f_rstatement fd_rstatement ["self", "path"] (spStatement K hR hNP) := ok_statementAt F_rstatement rc eNP t0 F1 mNP G_isPath F_isPath.kp b_isPath m_isPath
  have G_rports : FnOk P w K mg base CX0 1 f_rports fd_rports ["self"] (spAsc K hR portsB) := ok_ports F_rports rc mn_list
  have G_rpaths : FnOk P w K mg base CX0 1 f_rpaths fd_rpaths ["self"] (spPaths K hR) := ok_paths F_rpaths rc mn_list
  have G_rlines : FnOk P w K mg base CX0 1 f_rlines fd_rlines ["self"] (spLines K hR) := ok_lines F_rlines rc
  have G_name : FnOk P w K mg base CX0 3 f_name fd_name ["_law_source_here"] (spName) := ok_name F_name TO G_draw F_draw.kp b_draw m_draw
  have G_menu : FnOk P w K mg base CX0 4 f_menu fd_menu ["_law_source_here"] (spMenu) := ok_menu F_menu TO G_draw F_draw.kp b_draw m_draw G_name F_name.kp b_name m_name
  have G_expression : FnOk P w K mg base CX0 7 f_expression fd_expression ["_law_source_here", "_law_names", "_law_deep"] (spExprA K) := FnOk_any fun n hn => (ok_exprL F_expression TO G_draw F_draw.kp b_draw m_draw b_expression m_expression n).mono (by omega)
  have G_parts : FnOk P w K mg base CX0 1 f_parts fd_parts ["_law_statement_here"] (spBlocks K) := ok_parts F_parts TI
  have G_ways : ∀ m, FnOk P w K mg base CX0 (m + 2) f_ways fd_ways ["_law_block_here"] (spWays K m) := ok_ways F_ways TI G_parts F_parts.kp b_parts m_parts b_ways m_ways
  have G_simple : FnOk P w K mg base CX0 8 f_simple fd_simple ["_law_source_here", "_law_menu_here", "_law_kind"] (spSimpG K) := ok_simpG F_simple TO G_draw F_draw.kp b_draw m_draw G_expression F_expression.kp b_expression m_expression
  have GF : GenF P w K mg base f_draw f_statement f_block f_rows f_nested f_expression f_ways f_simple fd_draw fd_statement fd_block fd_rows fd_nested fd_expression fd_ways fd_simple := ⟨TO, G_draw, F_draw.kp, b_draw, m_draw, F_statement, b_statement, m_statement, F_block, b_block, m_block, F_rows, b_rows, m_rows, F_nested, b_nested, m_nested, G_expression, F_expression.kp, b_expression, m_expression, G_ways, F_ways.kp, b_ways, m_ways, G_simple, F_simple.kp, b_simple, m_simple⟩
  have G_top : FnOk P w K mg base CX0 31 f_top fd_top ["_law_source_here", "_law_menu_here"] (spTop K) := ok_top F_top GF
  have G_spoken : FnOk P w K mg base CX0 6 f_spoken fd_spoken ["_law_expression_here"] (spSpoken K 4) := ok_spoken F_spoken TI b_spoken m_spoken 4 (by decide)
  have G_ownNames : FnOk P w K mg base CX0 7 f_ownNames fd_ownNames ["_law_statement_here"] (spStrs K namesB) := ok_own F_ownNames G_spoken F_spoken.kp b_spoken m_spoken
  have G_lports : FnOk P w K mg base CX0 1 f_lports fd_lports ["_law_statement_here"] (spStrs K portsB) := ok_ports5 F_lports
  have G_alike : FnOk P w K mg base CX0 130 f_alike fd_alike ["_law_actual", "_law_due_here"] (spAlike K 128) := ok_alike F_alike TI m_alike b_alike 128
  have G_alikeL : FnOk P w K mg base CX0 5 f_alike fd_alike ["_law_actual", "_law_due_here"] (spAlikeL 3) := ok_alikeL F_alike TI m_alike b_alike 3
  have G_listed : FnOk P w K mg base CX0 2 f_listed fd_listed ["_law_block_here"] (spList5 K) := ok_list5 F_listed TO mn_reversed G_parts F_parts.kp b_parts m_parts
  have G_once : FnOk P w K mg base CX0 1 f_once fd_once ["_law_items"] (spOnce K) := ok_once F_once TO mn_sorted
  have G_due : FnOk P w K mg base CX0 8 f_due fd_due ["_law_block_here"] (spDue5 K) := ok_due5 F_due G_listed F_listed.kp b_listed m_listed G_ownNames F_ownNames.kp b_ownNames m_ownNames G_lports F_lports.kp b_lports m_lports G_once F_once.kp b_once m_once
  have G_ltold : FnOk P w K mg base CX0 2 f_ltold fd_ltold ["_law_routine"] (spTold5 K hR) := ok_told5 F_ltold rc G_rnames mn b_rnames G_rports mp b_rports G_rpaths ma b_rpaths G_rlines ml b_rlines
  have G_odd : FnOk P w K mg base CX0 3 f_odd fd_odd ["_law_source_here", "_law_path", "_law_other"] (spOdd5 K) := ok_odd5 F_odd TO TI G_draw F_draw.kp b_draw m_draw
  have G_lisPath : FnOk P w K mg base CX0 1 f_lisPath fd_lisPath ["_law_value", "_law_paths"] (spIsPath K) := ok_isPath5 F_lisPath TI
  have G_refused : FnOk P w K mg base CX0 4 f_refused fd_refused ["_law_routine", "_law_value"] (spRef5 K hR) := ok_ref5 F_refused rc mNP eNP teNP G_rstatement ms b_rstatement
  have G_agree : FnOk P w K mg base CX0 131 f_agree fd_agree ["_law_routine", "_law_rows_here"] (spAgree5 K hR) := ok_agree5 F_agree rc ms G_rstatement b_rstatement G_alike F_alike.kp b_alike m_alike
  exact ok_law FL TO TI ⟨⟨f_source, fd_source, ok_source F_source TA mn_sum, F_source.kp, b_source, m_source⟩⟩ ⟨⟨f_menu, fd_menu, G_menu, F_menu.kp, b_menu, m_menu⟩⟩ ⟨⟨f_draw, fd_draw, G_draw, F_draw.kp, b_draw, m_draw⟩⟩ ⟨⟨f_top, fd_top, G_top, F_top.kp, b_top, m_top⟩⟩ ⟨⟨f_due, fd_due, G_due, F_due.kp, b_due, m_due⟩⟩ ⟨⟨f_listed, fd_listed, G_listed, F_listed.kp, b_listed, m_listed⟩⟩ ⟨⟨f_ltold, fd_ltold, G_ltold, F_ltold.kp, b_ltold, m_ltold⟩⟩ G_alike G_alikeL F_alike.kp b_alike m_alike ⟨⟨f_agree, fd_agree, G_agree, F_agree.kp, b_agree, m_agree⟩⟩ ⟨⟨f_odd, fd_odd, G_odd, F_odd.kp, b_odd, m_odd⟩⟩ ⟨⟨f_lisPath, fd_lisPath, G_lisPath, F_lisPath.kp, b_lisPath, m_lisPath⟩⟩ ⟨⟨f_refused, fd_refused, G_refused, F_refused.kp, b_refused, m_refused⟩⟩ rc mkR G_rinit b_rinit mRo ms G_rstatement b_rstatement
end Oh
namespace Oh
open PySem PySem.Spec PyProof.Rows L2
theorem walk {l : PySem.W.OpenLaw} {q : Program} {loose : List Str} {XP : (Str → Option Value) → Heap → Prop} {YP : World → Heap → Prop} {d : DefRec} {K : Params → PySem.W.Frag} (hn : l.most = some 63) (hdf : d.params.defaults = [])
    (hY : ∀ (w : World) (h : Heap), YP w h → (K w.params).In h)
    (F : ∀ (w : World) (mg : Str → Option Value) (fa : Addr) (h : Heap), (K w.params).In h → h.Ns mainGlobals mg → mg d.name = some (.ref fa) →
      ∃ fd : FuncData, (∀ (s : Shared) (u : Value), BindsTo s fd ⟨[u], []⟩ [("_law_script", u)]) ∧ ∀ base : Heap, (K w.params).In base → base.Ns mainGlobals mg → FnOk l.prog w (K w.params) mg base CX0 132 fa fd ["_law_script"] (spLaw (K w.params))) :
    PySem.W.WalkO q loose XP YP l.row.toRowW d [] (fun f vs => PySem.call f vs) :=
  L2.walk_of (n := 63) (k := 132) (x := "_law_script") (CX := fun _ => CX0) (sp := fun w => spLaw (K w.params)) hn (by decide) hdf ⟨rfl, by decide, by decide⟩ hY F (fun _ _ a ns hl _ hS => ⟨a, ns, rfl, hS, hl, fun _ => rfl⟩) fun _ _ _ _ _ z => z
end Oh
open PySem PySem.W PyProof.Rows L2
set_option maxRecDepth 100000 in
set_option maxHeartbeats 0 in
theorem PySem.Challenge.cw_onlyheard_k05_whole_shape_holds : PySem.Challenge.rw_onlyheard_k05_whole_shape.Holds := by
  w_on; o_law; k_head; (case hw => w_witness2)
  k_fill
  refine Oh.walk (l := PySem.Challenge.rw_onlyheard_k05_whole_shape) rfl rfl (fun w h Y => PySem.W.kIn_of Y) ?F
  case F =>
    intro w mg fa h KX G hmg
    refine' Oh.all_mk KX G hmg ?aL ?dL ?a_source ?d_source ?a_mixed ?d_mixed ?a_draw ?d_draw ?a_name ?d_name ?a_menu ?d_menu ?a_expression ?d_expression ?a_parts ?d_parts ?a_ways ?d_ways ?a_simple ?d_simple ?a_rows ?d_rows ?a_nested ?d_nested ?a_statement ?d_statement ?a_block ?d_block ?a_top ?d_top ?a_alike ?d_alike ?a_spoken ?d_spoken ?a_ownNames ?d_ownNames ?a_lports ?d_lports ?a_listed ?d_listed ?a_once ?d_once ?a_due ?d_due ?a_ltold ?d_ltold ?a_odd ?d_odd ?a_lisPath ?d_lisPath ?a_refused ?d_refused ?a_agree ?d_agree ?a_isInt ?d_isInt ?a_isDigit ?d_isDigit ?a_isName ?d_isName ?a_isBlock ?d_isBlock ?a_headOf ?d_headOf ?a_isStmt ?d_isStmt ?a_setTell ?d_setTell ?a_isHear ?d_isHear ?a_isWait ?d_isWait ?a_isRow ?d_isRow ?a_isOpen ?d_isOpen ?a_isChoice ?d_isChoice ?a_isIf ?d_isIf ?a_isRepeat ?d_isRepeat ?a_isWord ?d_isWord ?a_blocksOf ?d_blocksOf ?a_namesOf ?d_namesOf ?a_namesIn ?d_namesIn ?a_portsOf ?d_portsOf ?a_first ?d_first ?a_isWrong ?d_isWrong ?a_deals ?d_deals ?a_isSound ?d_isSound ?a_quiet ?d_quiet ?a_quietOf ?d_quietOf ?a_count ?d_count ?a_laid ?d_laid ?a_check ?d_check ?a_isPath ?d_isPath ?d_rinit ?d_rnames ?d_rports ?d_rpaths ?d_rlines ?d_rstatement ?aX ?dX ?d1 ?t0 ?aB ?eB ?teB ?aNP ?eNP ?teNP ?aRo ?rc ?mkR ?mn ?mp ?ma ?ml ?ms ?aP ?wp ?aC ?wc ?aK ?kk ?g1 ?g2 ?g3 ?g4 ?g5 ?g6 ?z0 ?z1 ?z2 ?z3 ?z4 ?z5 ?z6 ?z7 ?z8 ?z9 ?z10 ?z11 ?z12 ?z13 ?z14
    (case aL => k_is)
    (case a_source => k_is)
    (case a_mixed => k_is)
    (case a_draw => k_is)
    (case a_name => k_is)
    (case a_menu => k_is)
    (case a_expression => k_is)
    (case a_parts => k_is)
    (case a_ways => k_is)
    (case a_simple => k_is)
    (case a_rows => k_is)
    (case a_nested => k_is)
    (case a_statement => k_is)
    (case a_block => k_is)
    (case a_top => k_is)
    (case a_alike => k_is)
    (case a_spoken => k_is)
    (case a_ownNames => k_is)
    (case a_lports => k_is)
    (case a_listed => k_is)
    (case a_once => k_is)
    (case a_due => k_is)
    (case a_ltold => k_is)
    (case a_odd => k_is)
    (case a_lisPath => k_is)
    (case a_refused => k_is)
    (case a_agree => k_is)
    (case a_isInt => k_is)
    (case a_isDigit => k_is)
    (case a_isName => k_is)
    (case a_isBlock => k_is)
    (case a_headOf => k_is)
    (case a_isStmt => k_is)
    (case a_setTell => k_is)
    (case a_isHear => k_is)
    (case a_isWait => k_is)
    (case a_isRow => k_is)
    (case a_isOpen => k_is)
    (case a_isChoice => k_is)
    (case a_isIf => k_is)
    (case a_isRepeat => k_is)
    (case a_isWord => k_is)
    (case a_blocksOf => k_is)
    (case a_namesOf => k_is)
    (case a_namesIn => k_is)
    (case a_portsOf => k_is)
    (case a_first => k_is)
    (case a_isWrong => k_is)
    (case a_deals => k_is)
    (case a_isSound => k_is)
    (case a_quiet => k_is)
    (case a_quietOf => k_is)
    (case a_count => k_is)
    (case a_laid => k_is)
    (case a_check => k_is)
    (case a_isPath => k_is)
    (case aX => k_is)
    (case aB => k_is)
    (case aNP => k_is)
    (case aRo => k_is)
    (case aP => k_is)
    (case aC => k_is)
    (case aK => k_is)
    (case g1 => k_is)
    (case g2 => k_is)
    (case g3 => k_is)
    (case g4 => k_is)
    (case g5 => k_is)
    (case g6 => k_is)
    (case z0 => k_is)
    (case z1 => k_is)
    (case z2 => k_is)
    (case z3 => k_is)
    (case z4 => k_is)
    (case z5 => k_is)
    (case z6 => k_is)
    (case z7 => k_is)
    (case z8 => k_is)
    (case z9 => k_is)
    (case z10 => k_is)
    (case z11 => k_is)
    (case z12 => k_is)
    (case z13 => k_is)
    (case z14 => k_is)
    (case mkR => refine' ⟨?p1, ?p2, ?p3, ?p4⟩; (case p1 => k_is); (case p2 => k_is); (case p3 => k_is); (case p4 => k_is))
    (case mn => refine' ⟨?p1, ?p2, ?p3⟩; (case p1 => k_is); (case p2 => k_is); (case p3 => k_is))
    (case mp => refine' ⟨?p1, ?p2, ?p3⟩; (case p1 => k_is); (case p2 => k_is); (case p3 => k_is))
    (case ma => refine' ⟨?p1, ?p2, ?p3⟩; (case p1 => k_is); (case p2 => k_is); (case p3 => k_is))
    (case ml => refine' ⟨?p1, ?p2, ?p3⟩; (case p1 => k_is); (case p2 => k_is); (case p3 => k_is))
    (case ms => refine' ⟨?p1, ?p2, ?p3⟩; (case p1 => k_is); (case p2 => k_is); (case p3 => k_is))
    (case eB => refine' Oh.err_mk ?xL ?rf ?sa ?ex ?ty ?kC ?ga ?gg ?hd ?ha ?hn ?ht ?hm ?no ?ini; (case xL => k_is); (case rf => decide +kernel); (case sa => k_is); (case ex => k_is); (case ty => k_is); (case kC => k_is); (case ga => k_is); (case gg => k_is); (case hd => k_is); (case ha => k_is); (case hn => k_is); (case ht => k_is); (case hm => k_is); (case no => k_is); (case ini => k_is))
    (case eNP => refine' Oh.err_mk ?xL ?rf ?sa ?ex ?ty ?kC ?ga ?gg ?hd ?ha ?hn ?ht ?hm ?no ?ini; (case xL => k_is); (case rf => decide +kernel); (case sa => k_is); (case ex => k_is); (case ty => k_is); (case kC => k_is); (case ga => k_is); (case gg => k_is); (case hd => k_is); (case ha => k_is); (case hn => k_is); (case ht => k_is); (case hm => k_is); (case no => k_is); (case ini => k_is))
    (case dL => refine' Oh.def_mk ?l ?c ?k; (case l => k_is); (case c => k_is); (case k => k_is))
    (case d_source => refine' Oh.def_mk ?l ?c ?k; (case l => k_is); (case c => k_is); (case k => k_is))
    (case d_mixed => refine' Oh.def_mk ?l ?c ?k; (case l => k_is); (case c => k_is); (case k => k_is))
    (case d_draw => refine' Oh.def_mk ?l ?c ?k; (case l => k_is); (case c => k_is); (case k => k_is))
    (case d_name => refine' Oh.def_mk ?l ?c ?k; (case l => k_is); (case c => k_is); (case k => k_is))
    (case d_menu => refine' Oh.def_mk ?l ?c ?k; (case l => k_is); (case c => k_is); (case k => k_is))
    (case d_expression => refine' Oh.def_mk ?l ?c ?k; (case l => k_is); (case c => k_is); (case k => k_is))
    (case d_parts => refine' Oh.def_mk ?l ?c ?k; (case l => k_is); (case c => k_is); (case k => k_is))
    (case d_ways => refine' Oh.def_mk ?l ?c ?k; (case l => k_is); (case c => k_is); (case k => k_is))
    (case d_simple => refine' Oh.def_mk ?l ?c ?k; (case l => k_is); (case c => k_is); (case k => k_is))
    (case d_rows => refine' Oh.def_mk ?l ?c ?k; (case l => k_is); (case c => k_is); (case k => k_is))
    (case d_nested => refine' Oh.def_mk ?l ?c ?k; (case l => k_is); (case c => k_is); (case k => k_is))
    (case d_statement => refine' Oh.def_mk ?l ?c ?k; (case l => k_is); (case c => k_is); (case k => k_is))
    (case d_block => refine' Oh.def_mk ?l ?c ?k; (case l => k_is); (case c => k_is); (case k => k_is))
    (case d_top => refine' Oh.def_mk ?l ?c ?k; (case l => k_is); (case c => k_is); (case k => k_is))
    (case d_alike => refine' Oh.def_mk ?l ?c ?k; (case l => k_is); (case c => k_is); (case k => k_is))
    (case d_spoken => refine' Oh.def_mk ?l ?c ?k; (case l => k_is); (case c => k_is); (case k => k_is))
    (case d_ownNames => refine' Oh.def_mk ?l ?c ?k; (case l => k_is); (case c => k_is); (case k => k_is))
    (case d_lports => refine' Oh.def_mk ?l ?c ?k; (case l => k_is); (case c => k_is); (case k => k_is))
    (case d_listed => refine' Oh.def_mk ?l ?c ?k; (case l => k_is); (case c => k_is); (case k => k_is))
    (case d_once => refine' Oh.def_mk ?l ?c ?k; (case l => k_is); (case c => k_is); (case k => k_is))
    (case d_due => refine' Oh.def_mk ?l ?c ?k; (case l => k_is); (case c => k_is); (case k => k_is))
    (case d_ltold => refine' Oh.def_mk ?l ?c ?k; (case l => k_is); (case c => k_is); (case k => k_is))
    (case d_odd => refine' Oh.def_mk ?l ?c ?k; (case l => k_is); (case c => k_is); (case k => k_is))
    (case d_lisPath => refine' Oh.def_mk ?l ?c ?k; (case l => k_is); (case c => k_is); (case k => k_is))
    (case d_refused => refine' Oh.def_mk ?l ?c ?k; (case l => k_is); (case c => k_is); (case k => k_is))
    (case d_agree => refine' Oh.def_mk ?l ?c ?k; (case l => k_is); (case c => k_is); (case k => k_is))
    (case d_isInt => refine' Oh.def_mk ?l ?c ?k; (case l => k_is); (case c => k_is); (case k => k_is))
    (case d_isDigit => refine' Oh.def_mk ?l ?c ?k; (case l => k_is); (case c => k_is); (case k => k_is))
    (case d_isName => refine' Oh.def_mk ?l ?c ?k; (case l => k_is); (case c => k_is); (case k => k_is))
    (case d_isBlock => refine' Oh.def_mk ?l ?c ?k; (case l => k_is); (case c => k_is); (case k => k_is))
    (case d_headOf => refine' Oh.def_mk ?l ?c ?k; (case l => k_is); (case c => k_is); (case k => k_is))
    (case d_isStmt => refine' Oh.def_mk ?l ?c ?k; (case l => k_is); (case c => k_is); (case k => k_is))
    (case d_setTell => refine' Oh.def_mk ?l ?c ?k; (case l => k_is); (case c => k_is); (case k => k_is))
    (case d_isHear => refine' Oh.def_mk ?l ?c ?k; (case l => k_is); (case c => k_is); (case k => k_is))
    (case d_isWait => refine' Oh.def_mk ?l ?c ?k; (case l => k_is); (case c => k_is); (case k => k_is))
    (case d_isRow => refine' Oh.def_mk ?l ?c ?k; (case l => k_is); (case c => k_is); (case k => k_is))
    (case d_isOpen => refine' Oh.def_mk ?l ?c ?k; (case l => k_is); (case c => k_is); (case k => k_is))
    (case d_isChoice => refine' Oh.def_mk ?l ?c ?k; (case l => k_is); (case c => k_is); (case k => k_is))
    (case d_isIf => refine' Oh.def_mk ?l ?c ?k; (case l => k_is); (case c => k_is); (case k => k_is))
    (case d_isRepeat => refine' Oh.def_mk ?l ?c ?k; (case l => k_is); (case c => k_is); (case k => k_is))
    (case d_isWord => refine' Oh.def_mk ?l ?c ?k; (case l => k_is); (case c => k_is); (case k => k_is))
    (case d_blocksOf => refine' Oh.def_mk ?l ?c ?k; (case l => k_is); (case c => k_is); (case k => k_is))
    (case d_namesOf => refine' Oh.def_mk ?l ?c ?k; (case l => k_is); (case c => k_is); (case k => k_is))
    (case d_namesIn => refine' Oh.def_mk ?l ?c ?k; (case l => k_is); (case c => k_is); (case k => k_is))
    (case d_portsOf => refine' Oh.def_mk ?l ?c ?k; (case l => k_is); (case c => k_is); (case k => k_is))
    (case d_first => refine' Oh.def_mk ?l ?c ?k; (case l => k_is); (case c => k_is); (case k => k_is))
    (case d_isWrong => refine' Oh.def_mk ?l ?c ?k; (case l => k_is); (case c => k_is); (case k => k_is))
    (case d_deals => refine' Oh.def_mk ?l ?c ?k; (case l => k_is); (case c => k_is); (case k => k_is))
    (case d_isSound => refine' Oh.def_mk ?l ?c ?k; (case l => k_is); (case c => k_is); (case k => k_is))
    (case d_quiet => refine' Oh.def_mk ?l ?c ?k; (case l => k_is); (case c => k_is); (case k => k_is))
    (case d_quietOf => refine' Oh.def_mk ?l ?c ?k; (case l => k_is); (case c => k_is); (case k => k_is))
    (case d_count => refine' Oh.def_mk ?l ?c ?k; (case l => k_is); (case c => k_is); (case k => k_is))
    (case d_laid => refine' Oh.def_mk ?l ?c ?k; (case l => k_is); (case c => k_is); (case k => k_is))
    (case d_check => refine' Oh.def_mk ?l ?c ?k; (case l => k_is); (case c => k_is); (case k => k_is))
    (case d_isPath => refine' Oh.def_mk ?l ?c ?k; (case l => k_is); (case c => k_is); (case k => k_is))
    (case d_rinit => refine' Oh.def_mk ?l ?c ?k; (case l => k_is); (case c => k_is); (case k => k_is))
    (case d_rnames => refine' Oh.def_mk ?l ?c ?k; (case l => k_is); (case c => k_is); (case k => k_is))
    (case d_rports => refine' Oh.def_mk ?l ?c ?k; (case l => k_is); (case c => k_is); (case k => k_is))
    (case d_rpaths => refine' Oh.def_mk ?l ?c ?k; (case l => k_is); (case c => k_is); (case k => k_is))
    (case d_rlines => refine' Oh.def_mk ?l ?c ?k; (case l => k_is); (case c => k_is); (case k => k_is))
    (case d_rstatement => refine' Oh.def_mk ?l ?c ?k; (case l => k_is); (case c => k_is); (case k => k_is))
    (case dX => refine' Oh.expr_mk ?l ?c ?tl ?od ?k; (case l => k_is); (case c => k_is); (case tl => k_is); (case od => rfl); (case k => k_is))
    (case t0 => k_is)
    (case d1 => refine' Oh.einit_mk ?l ?c ?tl ?od ?k; (case l => k_is); (case c => k_is); (case tl => k_is); (case od => rfl); (case k => k_is))
    (case teB => first | k_is | exact exm_ref (by k_is) (by k_is) (by k_is) (by k_is))
    (case teNP => first | k_is | exact exm_ref (by k_is) (by k_is) (by k_is) (by k_is))
    (case rc => refine' ⟨⟨?p1, ?p2, ?p3, ?p4⟩, ?p5, ?p6, ?p7, ?p8, ?p9⟩; (case p1 => k_is); (case p2 => k_is); (case p3 => k_is); (case p4 => k_is); (case p5 => (unfold L2.NoAttr; k_is)); (case p6 => (unfold L2.NoAttr; k_is)); (case p7 => (unfold L2.NoAttr; k_is)); (case p8 => (unfold L2.NoAttr; k_is)); (case p9 => (unfold L2.NoAttr; k_is)))
    (case wp => refine' Oh.parts_mk ?l ?kl ?hk ?lo ?v0 ?v1 ?v2 ?v3 ?v4; (case l => k_is); (case kl => exact ⟨⟨_, _, rfl, rfl⟩, ⟨_, _, rfl, rfl⟩, ⟨_, _, rfl, rfl⟩, ⟨_, _, rfl, rfl⟩, ⟨_, _, rfl, rfl⟩, trivial⟩); (case hk => rfl); (case lo => decide +kernel); (case v0 => k_is); (case v1 => k_is); (case v2 => k_is); (case v3 => k_is); (case v4 => k_is))
    (case wc => refine' Oh.checks_mk ?l ?kl ?hk ?lo ?v0 ?v1 ?v2 ?v3 ?v4 ?v5 ?v6 ?v7 ?v8 ?v9; (case l => k_is); (case kl => exact ⟨⟨_, _, rfl, rfl⟩, ⟨_, _, rfl, rfl⟩, ⟨_, _, rfl, rfl⟩, ⟨_, _, rfl, rfl⟩, ⟨_, _, rfl, rfl⟩, ⟨_, _, rfl, rfl⟩, ⟨_, _, rfl, rfl⟩, ⟨_, _, rfl, rfl⟩, ⟨_, _, rfl, rfl⟩, ⟨_, _, rfl, rfl⟩, trivial⟩); (case hk => rfl); (case lo => decide +kernel); (case v0 => k_is); (case v1 => k_is); (case v2 => k_is); (case v3 => k_is); (case v4 => k_is); (case v5 => k_is); (case v6 => k_is); (case v7 => k_is); (case v8 => k_is); (case v9 => k_is))
    (case kk => refine' Oh.kept_mk ?l ?c ?d ?z ?v; (case l => k_is); (case c => rfl); (case d => rfl); (case z => decide +kernel); (case v => exact .cons ⟨_, rfl⟩ (.cons ⟨_, rfl⟩ (.cons ⟨_, rfl⟩ (.cons ⟨_, rfl⟩ (.cons ⟨_, rfl⟩ (.cons ⟨_, rfl⟩ (.cons ⟨_, rfl⟩ (.cons ⟨_, rfl⟩ (.cons ⟨_, rfl⟩ (.cons ⟨_, rfl⟩ (.cons ⟨_, rfl⟩ (.cons ⟨_, rfl⟩ (.cons ⟨_, rfl⟩ (.cons ⟨_, rfl⟩ (.cons ⟨_, rfl⟩ (.cons ⟨_, rfl⟩ (.cons ⟨_, rfl⟩ (.cons ⟨_, rfl⟩ (.cons ⟨_, rfl⟩ (.cons ⟨_, rfl⟩ (.cons ⟨_, rfl⟩ (.cons ⟨_, rfl⟩ .nil)))))))))))))))))))))))
