import PyProof.Rows.All
import Wide.All
import OpenK.AllK
import Wide.FinOn
import HandS.ForExc
import HandS.ExcInit
import HandS.ExcIs
import HandS.ExcField
import HandS.Defaults
import HandS.IsInst
import HandS.Comp
import HandS.Dict
import HandS.Iter
import HandS.Text
import HandS.Conv
import HandS.Wide
import HandS.TupAny
import HandS.Flow
import HandS.WordsDict
import PySem.Challenge.RW_onlyheard_k04_whole_repeats_deal
import HandS.MakeKwOnly
import HandS.MakeKw
import PyProof.EnumMake
import PyProof.Draws
import KE.GoesMore
import HandS.More
import HandS.WrittenGet
import HandS.CallLocal
import HandS.Walk
import HandS.AnyAll
import HandS.Set
import HandS.Strs
import HandS.SetBool
import HandS.List
import HandS.Star
import HandS.DictComp
import HandS.TryOnly
import PyProof.ListMulRoad
import PyProof.FactsAll.tuple_2
import HandS.Base
import HandS.Call
import HandS.TupMul
import HandS.RevRange
import HandS.TupLen
set_option Elab.async false
set_option linter.all false
set_option maxRecDepth 100000
set_option maxHeartbeats 4000000
/-! Exceptions of own classes as plain values: made, asked by isinstance, their attribute read. -/
namespace EV
open PySem PySem.W PySem.Spec PySem.Calls PyProof.Rows
section
variable {prog : Program} {w : World} {A : Around} {E : Value → Shared → Prop} {s : Shared} {K : Frag} {x D : Addr} {ox : Obj} {od : Option Obj}
theorem found_cls {a g : Value} {nm : Str} (c : (clsIn K D).isSome = true) (e1 : findIn K (.ref D) nm = some (some a)) (e2 : specialIn K a "__get__" = some (some g)) (e3 : takesIn K a = some true) :
    findObj K D od nm = some (.bind g a) := by
  obtain ⟨cd, ec⟩ := Option.isSome_iff_exists.mp c
  unfold findObj
  rw [ec, Option.bind_some, e1, Option.bind_some]
  simp [e2, e3]
theorem cls_asked {Q : Option Value → Shared → Prop} (c : L2.ExcC K D) (X : K.In s.heap) (I : InstAt s.heap x ox D od) (h : Q (some (.ref D)) { s with toks := s.toks + 1 }) :
    wpAny (model prog w) A (getAttr? (.ref x) "__class__") Q E s := by
  obtain ⟨hga, hgt, hsub, hdct, ha, hn, htk, hm⟩ := c
  have ff : findObj K D od "__class__" = some (.bind (.builtin "getset_descriptor.__get__") (.builtin "object.__class__")) :=
    found_cls (by obtain ⟨cd, hc, _⟩ := any_some hdct; rw [hc]; rfl) ha hn htk
  obtain ⟨hp, g, d, t, os⟩ := s
  have lT := I.type (M := model prog w)
  have lA := looks_findIn (M := model prog w) X hga
  have lB := looks_findIn (M := model prog w) X hgt
  have lF := looks_find (M := model prog w) X I ff
  have isB : Looks (model prog w) hp (isInstance (.ref x) (.type "BaseException")) true := lT.andThen (looks_subIn X hsub)
  have z2 : (Value.builtin "BaseException.__getattribute__" == Value.builtin "object.__getattribute__") = false := by decide +kernel
  have z1 : (onTheHeap (Value.ref D) && Value.builtin "BaseException.__getattribute__" == Value.builtin "object.__getattribute__") = false := by rw [z2]; rfl
  have z0 : (false && onTheHeap (Value.builtin "BaseException.__getattribute__")) = false := rfl
  unfold getAttr? getAttrBy? getAttrBy
  refine wpAny_bind (wpAny_mkText (wpAny_bind (wpAny_attempt (wpAny_holding (wpAny_bind (lT.at (wpAny_bind (lA.at ?_))))))))
  show wpAny _ _ (if (onTheHeap (Value.ref D) && Value.builtin "BaseException.__getattribute__" == Value.builtin "object.__getattribute__") = true then _ else _) _ _ _
  rw [z1, if_neg Bool.false_ne_true]
  unfold getAttrByItsOwn hookBefore
  refine wpAny_bind ?_
  rw [if_pos (show onTheHeap (Value.ref D) = true from rfl)]
  refine lB.at (wpAny_bind (wpAny_attempt (wpAny_holding ?_)))
  unfold callGetattribute
  rw [z0, if_neg Bool.false_ne_true]
  unfold boundAndCalled
  rw [PySem.F.excAttr_ValueError.ga.bind (.ref x)]
  refine wpAny_bind (wpAny_pure ?_)
  show wpAny _ _ (call (.builtin "BaseException.__getattribute__") [.ref x, .str "__class__" t]) _ _ _
  refine wpAny_call (codeAny_call_builtin PySem.F.excAttr_ValueError.ga.plain PySem.F.entry_bexc_ga ?_)
  refine @check_slot (model prog w) _ _ ⟨hp, g, d, t + 1, os⟩ "BaseException.__getattribute__" "BaseException" "__getattribute__" (.ref x) [.str "__class__" t] [] _
    (by decide +kernel) (by decide +kernel) isB (PySem.F.args_bexc_ga (.ref x) (.str "__class__" t)) ?_
  unfold Builtin.«object.__getattribute__»
  refine wpAny_bind (wpAny_of_eq (a := ((Value.ref x : Value), [Value.str "__class__" t])) (by first | rfl | (simp only [slotArgs]; rfl)) ?_)
  refine wpAny_bind (wpAny_pure (wpAny_bind (lT.at (wpAny_bind (lF.at ?_)))))
  show wpAny _ _ (holding [Value.builtin "object.__class__"] (call (.builtin "getset_descriptor.__get__") [.builtin "object.__class__", .ref x, .ref D]) >>= ret) _ _ _
  refine wpAny_bind (wpAny_holding (wpAny_call (class_get (s := ⟨hp, g, d, t + 1, os⟩) (ox := ox) (od := od) X I hm (wpAny_pure ?_))))
  show wpAny _ _ (handedOut (.ref D)) _ _ _
  rw [handedOut_of (v := .ref D) rfl]
  first
    | exact wpAny_pure (wpAny_pure h)
    | exact wpAny_pure h
    | exact wpAny_pure (wpAny_bind (wpAny_pure (wpAny_pure h)))
theorem kit_exc (c : L2.ExcC K D) : KitX K (.ref x) (.ref D) (fun h => ∃ ox od, InstAt h x ox D od) where
  ty := fun _ _ _ ⟨_, _, I⟩ => I.type
  it := fun _ _ X _ => by
    obtain ⟨cdD, hcD, _⟩ := any_some c.hd
    unfold clsIn at hcD
    split at hcD
    · rename_i c' d' cd' sl' ho
      intro A' Q' E' s' k q
      unfold isType loadHead
      exact wpAny_bind (wpAny_loadPart (k _ _ (X _ _ ho)) (wpAny_pure q))
    · cases hcD
  ne := fun h tp dd its n sl X htp => by
    obtain ⟨cdD, hcD, _⟩ := any_some c.hd
    refine Bool.eq_false_iff.mpr fun q => ?_
    have e : D = tp := Value.ref.inj (beq_iff_eq.mp q)
    subst e
    unfold clsIn at hcD
    split at hcD
    · rename_i c' d' cd' sl' ho
      cases (X _ _ ho).symm.trans htp
    · cases hcD
  ca := fun X ⟨_, _, I⟩ k => cls_asked c X I k
end
end EV
namespace L2
open PySem PySem.Spec PyProof.Rows
section
variable {X : Cx} {pins : List (Addr × Obj)} {σ : St} {H : Hp} {s : Shared}
/-- a tracked exception as the library sees it: its class, its own dict -/
theorem exo_inst {a C d : Addr} {fs : List (Str × V)} (I : Inv X pins σ H s) (ea : H a = some (exo a C (some d))) (ed : H d = some (exd d fs)) :
    ∃ (ox od : Obj) (mA : Str → Option Value), PySem.W.InstAt s.heap a ox C (some od) ∧ (∀ f, RelO (fs.lookup f) (mA f)) ∧ ∀ f, PySem.W.lookIn f od = some (mA f) := by
  obtain ⟨t1, ho⟩ := exo_at I.hok ea
  obtain ⟨mA, hns, rel⟩ := exd_at I.hok ed
  obtain ⟨od, hd, hl⟩ := lookIn_ns hns
  exact ⟨_, od, mA, ⟨ho, rfl, rfl, hd⟩, rel, hl⟩
end
/-- isinstance(e, c), e a tracked exception of the class at D -/
def rIsV (K : PySem.W.Frag) : List V → Hp → VK → Prop := fun xs H Q => ∃ (a D d : Addr) (fs : List (Str × V)) (c : V) (cv : Value) (b : Bool),
  xs = [.ref a, c] ∧ H a = some (exo a D (some d)) ∧ H d = some (exd d fs) ∧ ExcC K D ∧ ClsV c cv ∧ PySem.W.kitOne K (.ref D) cv = some b ∧ Q (.bl b) H
theorem call_isV {X : Cx} : CallR X (.builtin "isinstance") (rIsV X.K) := by
  intro pins s σ H xs us Q I r h
  obtain ⟨a, D, d, fs, c, cv, b, rfl, ea, ed, T, k, e, q⟩ := h
  obtain ⟨u1, u2, rfl, r1, r2⟩ := vals2 r
  cases (show u1 = Value.ref a from r1)
  have e2 := k.eq r2
  subst e2
  obtain ⟨ox, od, mA, J, _, _⟩ := exo_inst I ea ed
  exact PySem.W.kia_one (EV.kit_exc T) I.kIn ⟨_, _, J⟩ e (fun z => nomatch z) fun tk => ⟨.bl b, H, I.tok tk, rfl, q⟩
/-- e.f, e a tracked exception -/
def tEFld (K : PySem.W.Frag) (f : Str) (te : TE) : TE := fun σ H Q => te σ H fun x H1 => ∃ (a C d : Addr) (fs : List (Str × V)) (v : V),
  x = .ref a ∧ H1 a = some (exo a C (some d)) ∧ H1 d = some (exd d fs) ∧ XfC K C ∧ PySem.W.findIn K (.ref C) f = some none ∧ fs.lookup f = some v ∧ Q v H1
theorem pe_efld {X : Cx} {e : Expr} {te : TE} {pos : Pos} {f : Str} (he : PE X e te) (hb : attributeBase e f X.env (eval e X.env) = eval e X.env := by rfl) : PE X (.Attribute e f pos) (tEFld X.K f te) := by
  refine ⟨fun pins s σ H Q I h => ?_⟩
  refine attr_of hb (thn (he.run pins s σ H _ I h) fun u s1 hh => ?_)
  obtain ⟨x, H1, I1, rx, a, C, d, fs, v, ex, ea, ed, T, hno, l, q⟩ := hh
  subst ex
  obtain rfl : u = Value.ref a := rx
  obtain ⟨ox, od, mA, J, rel, hl⟩ := exo_inst I1 ea ed
  obtain ⟨u, hu, ru⟩ := RelO.some_of (v := v) (o := mA f) (by rw [← l]; exact rel f)
  exact HandSPX.exc_get I1.kIn J T.ga T.gg T.exC (PySem.W.findObj_own T.hdC hno rfl (by rw [hl, hu])) (handed_of ru) ⟨v, H1, I1.tok _, ru, q⟩
/-- C(e, ..) as a value; C's __init__ (its own, or one above it) keeps sp -/
def tMkE (C : Addr) (sp : Sp) (dvs : List V) (ta : TA) : TE := fun σ H Q => ta σ H fun vs H1 => vs.length ≤ 1000 ∧ ∀ a, H1 a = none → sp (.ref a :: (vs ++ dvs)) (upd H1 a (exo a C none)) (fun v H2 => v = .non ∧ Q (.ref a) H2) (fun _ _ _ => False)
section
variable {X : Cx} {CX : CXT} {x : Str} {C fI : Addr} {k : Nat} {fd : FuncData} {ps : List Str} {sp : Sp} {ds : List Value} {dvs : List V} {e : Expr} {es : List Expr} {ta : TA} {p pos : Pos}
theorem run_mke {pins : List (Addr × Obj)} {σ : St} {H1 : Hp} {s : Shared} {Q : VK} {us : List Value} {vs : List V} (T : OexC X.K C) (iC : PySem.W.findIn X.K (.ref C) "__init__" = some (some (.ref fI))) (tI : PySem.W.typeIn X.K (.ref fI) = some (.type "function"))
    (F1 : FnOk X.prog X.w X.K X.mg X.base CX k fI fd ps sp) (hr : Room (k + 1) X.A) (hb : Binds X.K fd ps ds) (hd : Vals dvs ds) (hx : Passes CX X (fun _ _ _ => False)) (I1 : Inv X pins σ H1 s) (r1 : Vals vs us) (hz : vs.length ≤ 1000)
    (q1 : ∀ a, H1 a = none → sp (.ref a :: (vs ++ dvs)) (upd H1 a (exo a C none)) (fun v H2 => v = .non ∧ Q (.ref a) H2) (fun _ _ _ => False)) :
    wpAny (model X.prog X.w) X.A (call (.ref C) us) (EP X pins σ Q) X.xe s := by
  obtain ⟨nm, q, N, bs, bm, sn, sub, ab, col, dd, k0, k1, k2, k3, k5, hC, hbm⟩ := T.cls
  obtain ⟨hp, g, dr, tk, os⟩ := s
  have le : hp.objs.size ≤ hp.objs.size + 1 := Nat.le_succ _
  have hq := q1 (hp.objs.size + 1) (I1.hok.fresh le)
  have kept : ∀ b o, hp.get? b = some o → ((hp.push (PySem.W.kdv_tup us)).push (PySem.HandSPX.excO C hp.objs.size)).get? b = some o := fun b o z => Heap.get?_push_of_some _ (Heap.get?_push_of_some _ z)
  have new : ((hp.push (PySem.W.kdv_tup us)).push (PySem.HandSPX.excO C hp.objs.size)).get? (hp.objs.size + 1) = some (PySem.HandSPX.excO C hp.objs.size) := by heap_get
  have I2 : Inv X pins σ (upd H1 (hp.objs.size + 1) (exo (hp.objs.size + 1) C none)) ⟨(hp.push (PySem.W.kdv_tup us)).push (PySem.HandSPX.excO C hp.objs.size), g, dr, tk, os⟩ :=
    I1.laid (t' := tk) (a := hp.objs.size + 1) (o := exo (hp.objs.size + 1) C none) (h' := (hp.push (PySem.W.kdv_tup us)).push (PySem.HandSPX.excO C hp.objs.size)) kept le (exo_ok new)
  have r2 : Vals (V.ref (hp.objs.size + 1) :: (vs ++ dvs)) (Value.ref (hp.objs.size + 1) :: (us ++ ds)) := .cons rfl (r1.append hd)
  have hl : (Value.ref (hp.objs.size + 1) :: us ++ ds).length = ps.length := r2.length.symm.trans (F1.len _ _ _ _ hq)
  have hus : us.length ≤ sizeLine := by
    rw [← Paired.length r1, sizeLine_eq]
    omega
  refine wpAny_call (PySem.HandSPX.call_own F.excBase_ValueError (fun Y => PySem.HandSPX.refsVE_contains Y bm hbm) (I1.kIn _ _ hC) (PySem.W.looks_findIn I1.kIn iC) (fun self => PySem.W.bind_fn I1.kIn self tI) hus
    (codeAny_mono (F1.run _ X.stack _ _ ⟨Value.ref (hp.objs.size + 1) :: us, []⟩ (Value.ref (hp.objs.size + 1) :: (us ++ ds)) _ _ (fun _ _ _ => False) (hr.make C us []) (I2.env0.make C us []) (hb _ (Value.ref (hp.objs.size + 1) :: us) I2.kIn hl) r2 hq) fun r s' hq' => ?_))
  cases r with
  | error er => exact hx pins σ _ _ er s' I2 hq'
  | ok fl =>
    cases fl with
    | ret u =>
      obtain ⟨v, H', I3, rv, ev, q3⟩ := I2.after hq'
      subst ev
      exact ⟨rv, ⟨V.ref (hp.objs.size + 1), H', I3, rfl, q3⟩⟩
    | next => exact False.elim hq'
    | brk => exact False.elim hq'
    | cont => exact False.elim hq'
theorem pe_mke (T : OexC X.K C) (iC : PySem.W.findIn X.K (.ref C) "__init__" = some (some (.ref fI))) (tI : PySem.W.typeIn X.K (.ref fI) = some (.type "function")) (F1 : FnOk X.prog X.w X.K X.mg X.base CX k fI fd ps sp) (hr : Room (k + 1) X.A)
    (hb : Binds X.K fd ps ds) (hd : Vals dvs ds) (hx : Passes CX X (fun _ _ _ => False)) (hg : Gl X x) (hm : X.mg x = some (.ref C)) (ha : PA X (e :: es) ta) (hdb : (x == ("__debug__" : Str)) = false := by decide)
    (he : starEach (e :: es) X.env = (false, eval e X.env) :: starEach es X.env := by rfl) (hpl : (backTo pos (starEach es X.env)).any (·.1) = false := by rfl) : PE X (.Call (.Name x p) (e :: es) [] pos) (tMkE C sp dvs ta) := by
  refine ⟨fun pins s σ H Q I h => ?_⟩
  refine wpAny_Call_Name_kw (ld_glob I hg hm ?_ hdb)
  refine PySem.W.callWith_K (h₀ := X.base) I.ok.mod.kin T.kC (thn (ha.run pos pins s σ H _ I h) fun us s1 ⟨vs, H1, I1, r1, hz, q1⟩ => ⟨I1.kIn, ?_⟩) he hpl
  exact run_mke T iC tI F1 hr hb hd hx I1 r1 hz q1
theorem pe_mke0 (T : OexC X.K C) (iC : PySem.W.findIn X.K (.ref C) "__init__" = some (some (.ref fI))) (tI : PySem.W.typeIn X.K (.ref fI) = some (.type "function")) (F1 : FnOk X.prog X.w X.K X.mg X.base CX k fI fd ps sp) (hr : Room (k + 1) X.A)
    (hb : Binds X.K fd ps ds) (hd : Vals dvs ds) (hx : Passes CX X (fun _ _ _ => False)) (hg : Gl X x) (hm : X.mg x = some (.ref C)) (hdb : (x == ("__debug__" : Str)) = false := by decide) : PE X (.Call (.Name x p) [] [] pos) (tMkE C sp dvs tNil) := by
  refine ⟨fun pins s σ H Q I h => ?_⟩
  refine wpAny_Call_Name_kw (ld_glob I hg hm ?_ hdb)
  obtain ⟨hz, q1⟩ := h
  exact PySem.W.callWith_K0 I.kIn T.kC (run_mke (us := []) T iC tI F1 hr hb hd hx I .nil hz q1)
end
end L2
/-! C(f = e), C an own exception class whose __init__ takes f. -/
namespace EV
open PySem PySem.W PySem.Spec PySem.Calls PyProof.Rows PySem.HandSPX
section
variable {M : Model} {prog : Program} {w : World} {A : Around} {E : Value → Shared → Prop} {R : Result → Shared → Prop} {h : Heap} {g : Array GenState} {d : Drawn} {t : Nat} {os : OsState}
variable {nm q : Str} {C N : Addr} {bs bm bmB : List Value} {hdct : Bool} {sn : List Str} {sub : List Value} {ab : Bool} {col : Option Bool} {dd : Option Addr} {k0 k1 k2 k3 k5 : Option Value} {B newId initId : String} {fn : Str} {fv : Value}
theorem kwTypeCheck {Q : Unit → Shared → Prop} (hC : h.get? C = some (excClassObj nm q C N bs bm hdct sn sub ab col dd k0 k1 k2 k3 k5 newId)) (hq : Q () ⟨h, g, d, t, os⟩) :
    wpAny M A (checkBuiltinCall "type.__call__" ⟨[.ref C], [(fn, fv)]⟩) Q E ⟨h, g, d, t, os⟩ := by
  have s1 := tc_sub
  have s2 : (⟨h, g, d, t, os⟩ : Shared).TypeIs (.ref C) "type" := ⟨_, hC, rfl⟩
  simp only [checkBuiltinCall, tc_kind, tc_split]
  repeat (any_goals (first | assumption | with_reducible refine wpAny_loadPart_at hC ?_ | with_reducible refine wpAny_onRaise ?_ | with_reducible refine wpAny_map ?_ | wp_step))
  all_goals trace_state
theorem kwNewCheck (F : ExcBaseFacts B newId initId bmB) (hT : ∀ X : String, bm.contains (.type X) = bmB.contains (.type X)) {Q : Unit → Shared → Prop}
    (hC : h.get? C = some (excClassObj nm q C N bs bm hdct sn sub ab col dd k0 k1 k2 k3 k5 newId)) (hq : Q () ⟨h, g, d, t, os⟩) : wpAny M A (checkBuiltinCall newId ⟨[.ref C], [(fn, fv)]⟩) Q E ⟨h, g, d, t, os⟩ := by
  have inB : (Value.ref C :: bm).contains (.type B) = true := by rw [List.contains_cons, hT, F.hasB, Bool.or_true]
  have star := F.noStar
  simp only [checkBuiltinCall, F.newKind, F.newSplit, F.newRow]
  repeat (first | refine wpAny_loadPart_at hC ?_ | (refine wpAny_isSubtype_exc hC ?_; rw [inB]) | refine wpAny_staticBase_exc hC ?_ | refine wpAny_madeBy_exc hC ?_ | simp only [bne_self_eq_false, Bool.false_eq_true, if_false] | wp_step)
  first
    | exact hq
    | trace_state
theorem kwNew (F : ExcBaseFacts B newId initId bmB) (hT : ∀ X : String, bm.contains (.type X) = bmB.contains (.type X)) (hC : h.get? C = some (excClassObj nm q C N bs bm hdct sn sub ab col dd k0 k1 k2 k3 k5 newId))
    (hq : R (.ok (.ret (.ref (h.objs.size + 1)))) ⟨(h.push (W.kdv_tup [])).push (excO C h.objs.size), g, d, t, os⟩) : codeAny (model prog w) A (.builtin newId ⟨[.ref C], [(fn, fv)]⟩) R ⟨h, g, d, t, os⟩ := by
  have ends := F.ends
  have inB : (Value.ref C :: bm).contains (.type B) = true := by rw [List.contains_cons, hT, F.hasB, Bool.or_true]
  have inA : (Value.ref C :: bm).contains (.type "AttributeError") = false := by rw [List.contains_cons, hT, F.noAttr]; rfl
  have inN : (Value.ref C :: bm).contains (.type "NameError") = false := by rw [List.contains_cons, hT, F.noName]; rfl
  refine codeAny_builtinAt F.entry ?_
  unfold Builtin.«BaseException.__new__»
  refine PySem.wpAt_bind ?_
  show PySem.wpAt _ _ _ (stack >>= _) _ _ _
  refine PySem.wpAt_bind (PySem.wpAt_stack fun p below => PySem.wpAt_of_wpAny ?_)
  wp_walk
  refine PySem.wpAt_of_wpAny ?_
  rw [F.owner]
  repeat (first | with_reducible refine wpAny_madeHere_exc F.canon hC ?_ | with_reducible refine wpAny_loadPart_at hC ?_ | (with_reducible refine wpAny_isSubtype_exc hC ?_; first | rw [inB] | rw [inA] | rw [inN]) | wp_step)
  show R _ _
  rw [Heap.size_push]
  exact hq
theorem kwTypeCall (F : ExcBaseFacts B newId initId bmB) (hT : ∀ X : String, bm.contains (.type X) = bmB.contains (.type X)) {fI : Addr} {Q : Fin → Shared → Prop}
    (hC : h.get? C = some (excClassObj nm q C N bs bm hdct sn sub ab col dd k0 k1 k2 k3 k5 newId))
    (hi : W.Looks (model prog w) h (typeLookup (.ref C) "__init__") (some (.ref fI))) (hb : ∀ self, W.Looks (model prog w) h (bindSpecial (.ref fI) self) (.ref fI, [self]))
    (hq : codeAny (model prog w) A (.call (.ref fI) ⟨[.ref (h.objs.size + 1)], [(fn, fv)]⟩)
      (fun r s' => match r with | .ok (.ret v) => v = .none ∧ Q (.done (.ret (.ref (h.objs.size + 1)))) s' | .ok _ => False | .error e => E e s') ⟨(h.push (W.kdv_tup [])).push (excO C h.objs.size), g, d, t, os⟩) :
    wpAny (model prog w) A (Builtin.«type.__call__» ⟨[.ref C], [(fn, fv)]⟩) Q E ⟨h, g, d, t, os⟩ := by
  repeat (first | with_reducible refine wpAny_loadPart_at hC ?_ | with_reducible refine wpAny_madeBy_exc hC ?_ | wp_step)
  refine codeAny_call_builtin_code (Code.quiet_builtin _ F.quiet) (kwNewCheck F hT hC ?_)
  refine kwNew F hT hC ?_
  show wpAny _ _ _ _ _ _
  have kk : ∀ b o, h.get? b = some o → ((h.push (W.kdv_tup [])).push (excO C h.objs.size)).get? b = some o := fun b o e => Heap.get?_push_of_some _ (Heap.get?_push_of_some _ e)
  have hC1 := kk _ _ hC
  have new : ((h.push (W.kdv_tup [])).push (excO C h.objs.size)).get? (h.objs.size + 1) = some (excO C h.objs.size) := by heap_get
  have own : (Value.ref C :: bm).contains (.ref C) = true := by simp
  have l1 := hi.keeps kk
  have l2 := (hb (.ref (h.objs.size + 1))).keeps kk
  unfold isInstance
  repeat (first | with_reducible refine wpAny_loadPart_at new ?_ | (with_reducible refine wpAny_isSubtype_exc hC1 ?_; rw [own]) | wp_step)
  show wpAny _ _ (typeLookup (.ref C) _) _ _ _
  refine l1.at (wpAny_holding (wpAny_bind (l2.at (wpAny_bind (wpAny_call (codeAny_mono hq fun r s' z => ?_))))))
  rcases r with e | (v | _ | _ | _) <;> first | exact z | exact z.elim | skip
  obtain ⟨rfl, z⟩ := z
  first
    | exact wpAny_pure (wpAny_pure z)
    | (wp_walk; exact z)
theorem kwCall (F : ExcBaseFacts B newId initId bmB) (hT : ∀ X : String, bm.contains (.type X) = bmB.contains (.type X)) {fI : Addr}
    (hC : h.get? C = some (excClassObj nm q C N bs bm hdct sn sub ab col dd k0 k1 k2 k3 k5 newId))
    (hi : W.Looks (model prog w) h (typeLookup (.ref C) "__init__") (some (.ref fI))) (hb : ∀ self, W.Looks (model prog w) h (bindSpecial (.ref fI) self) (.ref fI, [self]))
    (hq : codeAny (model prog w) (A.under (.builtin "type.__call__" ⟨[.ref C], [(fn, fv)]⟩)) (.call (.ref fI) ⟨[.ref (h.objs.size + 1)], [(fn, fv)]⟩) (W.InitBack (h.objs.size + 1) R)
      ⟨(h.push (W.kdv_tup [])).push (excO C h.objs.size), g, d, t, os⟩) : codeAny (model prog w) A (.call (.ref C) ⟨[], [(fn, fv)]⟩) R ⟨h, g, d, t, os⟩ := by
  have s0 := tc_lookup
  have s1 := tc_bind (.ref C)
  have s2 : (⟨h, g, d, t, os⟩ : Shared).TypeIs (.ref C) "type" := ⟨_, hC, rfl⟩
  refine codeAny_of_tree ?_
  show wpAny _ _ (callAny (.ref C) _) _ _ _
  repeat (any_goals (first | assumption | with_reducible refine wpAny_loadPart_at hC ?_ | wp_step))
  refine ⟨rfl, ?_⟩
  refine codeAny_call_builtin_at (Code.quiet_builtin _ (by decide +kernel)) entry_typeCall (kwTypeCheck hC (kwTypeCall F hT hC hi hb ?_))
  refine codeAny_mono hq fun r s' z => ?_
  rcases r with e | (v | _ | _ | _) <;> exact z
end
end EV
namespace Oh
open PySem PySem.Spec PyProof.Rows L2
def top (i : Nat) : Stmt := PySem.Challenge.pw_onlyheard_k04_whole_repeats_deal.main.body.getD i (.Pass ⟨0, 0, 0, 0⟩)
abbrev sSource : Stmt := top 50
abbrev sMixed : Stmt := top 51
abbrev sDraw : Stmt := top 52
abbrev lParts : Stmt := top 53
abbrev sAlike : Stmt := top 54
abbrev lSimple : Stmt := top 55
abbrev lBranching : Stmt := top 56
abbrev lBlock : Stmt := top 57
abbrev lListed : Stmt := top 58
abbrev lChoices : Stmt := top 59
abbrev lAfter : Stmt := top 60
abbrev lOut : Stmt := top 61
abbrev lNext : Stmt := top 62
abbrev lPasses : Stmt := top 63
abbrev lFirst : Stmt := top 64
abbrev sLaw : Stmt := top 65
end Oh
namespace Oh
open PySem PySem.Spec PyProof.Rows L2
/-- a mixed number: some int -/
def spMixed : Sp := fun vs H Q _ => ∃ n c : Int, vs = [.int n, .int c] ∧ ∀ m : Int, Q (.int m) H
/-- where the numbers of a script are drawn from: the list at a, its cells at c -/
structure Src (H : Hp) (a c : Addr) : Prop where
  ne : a ≠ c
  at_ : ∃ (ns : List Int) (i : Nat) (s k : Int), H a = some (.lst [.ref c, .int (i : Int), .int s, .int k]) ∧ H c = some (.lst (ns.map V.int)) ∧ ns.length ≤ 63
/-- all but the two lists stays -/
def Keep (a c : Addr) (H H' : Hp) : Prop := ∀ b o, H b = some o → b ≠ a → b ≠ c → H' b = some o
theorem Keep.refl (a c : Addr) (H : Hp) : Keep a c H H := fun _ _ h _ _ => h
theorem Keep.trans {a c : Addr} {H H1 H2 : Hp} (k : Keep a c H H1) (l : Keep a c H1 H2) : Keep a c H H2 := fun b o h n m => l b o (k b o h n m) n m
theorem Keep.of_same {a c : Addr} {H H' : Hp} (s : Same H H') : Keep a c H H' := fun b o h _ _ => s b o h
def spDraw : Sp := fun vs H Q _ => ∃ (a c : Addr) (m : Int), vs = [.ref a, .int m] ∧ Src H a c ∧ 0 < m ∧ m.natAbs.log2 < 9000 ∧
  ∀ (d : Int) (H' : Hp), 0 ≤ d → d < m → Src H' a c → Keep a c H H' → Q (.int d) H'
structure TxtA (mg : Str → Option Value) : Prop where
  int : mg "int" = none
  len : mg "len" = none
section
variable {P : Program} {w : World} {K : PySem.W.Frag} {mg : Str → Option Value} {base : Heap}
theorem scMixed : FnScope ["_law_number", "_law_count"] ["_law_number", "_law_count"] (defScope sMixed) := ⟨rfl, rfl, rfl, by decide +kernel, rfl, by decide +kernel, by decide +kernel⟩
theorem ok_mixed {f : Addr} {fd : FuncData} (F : Fun K "_law_mixed" "_law_mixed" sMixed f fd) (T : TxtA mg) : FnOk P w K mg base CX0 1 f fd ["_law_number", "_law_count"] spMixed := by
  refine F.ok scMixed (fun vs H Q E h => ?_) (fun cdv A outer s H vs Q E hr h => ?_)
  · obtain ⟨n, c, rfl, _⟩ := h
    rfl
  · obtain ⟨n, c, rfl, k⟩ := h
    refine ⟨_, pss_cons (ps_set (i := 0) scMixed.nd rfl (Or.inl rfl) (pe_op op_mod (pe_op op_mul (pe_callTy call_int1 (by rfl) T.int boot_int (pa_cons (pe_op op_add (pe_op op_add (pv 0) (pe_op op_mul pe_int (pv 1))) pe_int) pa_nil)) pe_int) pe_int))
      (pss_cons (ps_set (i := 0) scMixed.nd rfl (Or.inl rfl) (pe_op op_mod (pe_op op_mul (pe_callTy call_int1 (by rfl) T.int boot_int (pa_cons (pv 0) pa_nil)) (pe_op op_add (pe_op op_fdiv (pv 0) pe_int) pe_int)) pe_int))
      (pss_cons (ps_set (i := 0) scMixed.nd rfl (Or.inl rfl) (pe_op op_mod (pe_op op_mul (pe_callTy call_int1 (by rfl) T.int boot_int (pa_cons (pv 0) pa_nil)) (pe_op op_add (pe_op op_fdiv (pv 0) pe_int) pe_int)) pe_int))
      (pss_one (ps_ret (pe_op op_fdiv (pv 0) pe_int))))), ?_⟩
    refine ⟨_, rfl, _, rfl, _, _, rfl, rfl, .inl (by decide), _, _, rfl, rfl, _, _, rfl, rfl, .inl ⟨_, rfl, _, _, rfl, rfl, .inr (by decide), _, _, rfl, rfl, (by show (0 : Int) < 2147483647; decide), ?_⟩⟩
    have m1 := Int.emod_nonneg ((n + 7919 * c + 1) * 48271) (show (2147483647 : Int) ≠ 0 by decide)
    have m2 := Int.emod_lt_of_pos ((n + 7919 * c + 1) * 48271) (show (0 : Int) < 2147483647 by decide)
    generalize (n + 7919 * c + 1) * 48271 % 2147483647 = x at m1 m2 ⊢
    refine ⟨_, rfl, .inl ⟨_, rfl, _, rfl, _, _, rfl, rfl, ⟨by decide, by decide⟩, _, _, rfl, rfl, _, _, rfl, rfl, .inl (by omega), _, _, rfl, rfl, (by show (0 : Int) < 2147483647; decide), ?_⟩⟩
    have m3 := Int.emod_nonneg (x * (x / 1009 + 69621)) (show (2147483647 : Int) ≠ 0 by decide)
    have m4 := Int.emod_lt_of_pos (x * (x / 1009 + 69621)) (show (0 : Int) < 2147483647 by decide)
    generalize x * (x / 1009 + 69621) % 2147483647 = y at m3 m4 ⊢
    refine ⟨_, rfl, .inl ⟨_, rfl, _, rfl, _, _, rfl, rfl, ⟨by decide, by decide⟩, _, _, rfl, rfl, _, _, rfl, rfl, .inl (by omega), _, _, rfl, rfl, (by show (0 : Int) < 2147483399; decide), ?_⟩⟩
    exact ⟨_, rfl, _, _, rfl, rfl, ⟨by decide, by decide⟩, k _⟩
theorem scDraw : FnScope ["_law_source_here", "_law_many", "_law_cell"] ["_law_source_here", "_law_many"] (defScope sDraw) := ⟨rfl, rfl, rfl, by decide +kernel, rfl, by decide +kernel, by decide +kernel⟩
theorem ok_draw {f fM : Addr} {fd fdM : FuncData} (F : Fun K "_law_draw" "_law_draw" sDraw f fd) (T : TxtA mg) (FM : Fun K "_law_mixed" "_law_mixed" sMixed fM fdM) (bM : Binds K fdM ["_law_number", "_law_count"] []) (mM : mg "_law_mixed" = some (.ref fM)) :
    FnOk P w K mg base CX0 2 f fd ["_law_source_here", "_law_many"] spDraw := by
  have G : FnOk P w K mg base CX0 1 fM fdM ["_law_number", "_law_count"] spMixed := ok_mixed FM T
  refine F.ok scDraw (fun vs H Q E h => ?_) (fun cdv A outer s H vs Q E hr h => ?_)
  · obtain ⟨a, c, m, rfl, _⟩ := h
    rfl
  · obtain ⟨a, c, m, rfl, ⟨ne, ns, i, sm, n, ha, hc, hl⟩, hm, hm2, k⟩ := h
    refine ⟨_, pss_cons (ps_asg (pe_op op_add (pe_ix ix_list (pv 0) pe_int (fun _ _ => rfl)) pe_int) (pg_sub (pv 0) pe_int set_list))
      (pss_cons (ps_if (pt_cmpR op_ge (pe_ix ix_list (pv 0) pe_int (fun _ _ => rfl)) (pe_callB call_len_seq (by rfl) T.len boot_len (pa_cons (pe_ix ix_list (pv 0) pe_int (fun _ _ => rfl)) pa_nil)) (nomark _))
        (pss_one (ps_ret (pe_op op_mod (pe_callTy call_int1 (by rfl) T.int boot_int (pa_cons (pe_call G hr (by rfl) mM FM.kp bM .nil pass0 (pa_cons (pe_ix ix_list (pv 0) pe_int (fun _ _ => rfl)) (pa_cons (pe_ix ix_list (pv 0) pe_int (fun _ _ => rfl)) pa_nil))) pa_nil)) (pv 1)))) pss_nil)
      (pss_cons (ps_set (i := 2) scDraw.nd rfl (Or.inl rfl) (pe_ix ix_list (pe_ix ix_list (pv 0) pe_int (fun _ _ => rfl)) (pe_ix ix_list (pv 0) pe_int (fun _ _ => rfl)) (fun _ _ => rfl)))
      (pss_cons (ps_if (pt_cmpR op_lt (pv 2) (pe_op op_pow pe_int pe_int) (nomark _))
        (pss_cons (ps_asg (pe_op op_add (pe_ix ix_list (pv 0) pe_int (fun _ _ => rfl)) pe_int) (pg_sub (pv 0) pe_int set_list))
        (pss_one (ps_ret (pe_op op_mod (pe_callTy call_int1 (by rfl) T.int boot_int (pa_cons (pe_call G hr (by rfl) mM FM.kp bM .nil pass0 (pa_cons (pv 2) (pa_cons (pe_ix ix_list (pv 0) pe_int (fun _ _ => rfl)) pa_nil))) pa_nil)) (pv 1))))) pss_nil)
      (pss_cons (ps_asg (pe_op op_fdivW (pv 2) (pv 1)) (pg_sub (pe_ix ix_list (pv 0) pe_int (fun _ _ => rfl)) (pe_ix ix_list (pv 0) pe_int (fun _ _ => rfl)) set_list))
      (pss_one (ps_ret (pe_op op_mod (pe_callTy call_int1 (by rfl) T.int boot_int (pa_cons (pv 2) pa_nil)) (pv 1)))))))), ?_⟩
    -- source[3] = source[3] + 1
    refine ⟨_, rfl, a, _, _, _, rfl, rfl, SqL.of ha, rfl, _, _, rfl, rfl, _, rfl, a, _, _, _, rfl, rfl, ha, rfl, ?_⟩
    have h1 : upd H a (.lst [.ref c, .int (i : Int), .int sm, .int (n + 1)]) a = some (.lst [.ref c, .int (i : Int), .int sm, .int (n + 1)]) := upd_same
    have h2 : upd H a (.lst [.ref c, .int (i : Int), .int sm, .int (n + 1)]) c = some (.lst (ns.map V.int)) := by rw [upd_ne ne.symm]; exact hc
    have k1 : Keep a c H (upd H a (.lst [.ref c, .int (i : Int), .int sm, .int (n + 1)])) := fun b o e nb _ => by rw [upd_ne nb]; exact e
    -- the test
    refine ⟨_, rfl, a, _, _, _, rfl, rfl, SqL.of h1, rfl, _, rfl, a, _, _, _, rfl, rfl, SqL.of h1, rfl, c, _, rfl, .inl (SqL.of h2), _, _, rfl, rfl, _, rfl, ?_⟩
    refine ite2 (fun hge => ?_) (fun hlt => ?_)
    · refine ⟨_, rfl, a, _, _, _, rfl, rfl, SqL.of h1, rfl, _, rfl, a, _, _, _, rfl, rfl, SqL.of h1, rfl, _, _, rfl, fun x => .inl ⟨_, rfl, _, rfl, _, _, rfl, rfl, hm, ?_⟩⟩
      exact k _ _ (Int.emod_nonneg _ (by omega)) (Int.emod_lt_of_pos _ hm) ⟨ne, ns, i, sm, n + 1, h1, h2, hl⟩ k1
    · have hi : i < ns.length := by
        have z : ¬ ((ns.map V.int).length : Int) ≤ (i : Int) := fun q => hlt (decide_eq_true q)
        rw [List.length_map] at z
        omega
      have hat : atI (ns.map V.int) (i : Int) = some (V.int ns[i]) := atI_nat (by simp [hi])
      refine ⟨_, rfl, a, _, _, _, rfl, rfl, SqL.of h1, rfl, _, rfl, a, _, _, _, rfl, rfl, SqL.of h1, rfl, c, _, _, _, rfl, rfl, SqL.of h2, hat, ?_⟩
      refine ⟨_, rfl, _, _, rfl, rfl, ⟨by decide, by decide, by decide⟩, _, _, rfl, rfl, _, rfl, ?_⟩
      refine ite2 (fun hsm => ?_) (fun hbig => ?_)
      · refine ⟨_, rfl, a, _, _, _, rfl, rfl, SqL.of h1, rfl, _, _, rfl, rfl, _, rfl, a, _, _, _, rfl, rfl, h1, rfl, ?_⟩
        have g1 : upd (upd H a (.lst [.ref c, .int (i : Int), .int sm, .int (n + 1)])) a (.lst [.ref c, .int ((i : Int) + 1), .int sm, .int (n + 1)]) a = some (.lst [.ref c, .int ((i + 1 : Nat) : Int), .int sm, .int (n + 1)]) := by rw [upd_same]; rfl
        have g2 : upd (upd H a (.lst [.ref c, .int (i : Int), .int sm, .int (n + 1)])) a (.lst [.ref c, .int ((i : Int) + 1), .int sm, .int (n + 1)]) c = some (.lst (ns.map V.int)) := by rw [upd_ne ne.symm]; exact h2
        have k2 : Keep a c H (upd (upd H a (.lst [.ref c, .int (i : Int), .int sm, .int (n + 1)])) a (.lst [.ref c, .int ((i : Int) + 1), .int sm, .int (n + 1)])) := k1.trans fun b o e nb _ => by rw [upd_ne nb]; exact e
        refine ⟨_, rfl, _, rfl, a, _, _, _, rfl, rfl, SqL.of g1, rfl, _, _, rfl, fun x => .inl ⟨_, rfl, _, rfl, _, _, rfl, rfl, hm, ?_⟩⟩
        exact k _ _ (Int.emod_nonneg _ (by omega)) (Int.emod_lt_of_pos _ hm) ⟨ne, ns, i + 1, sm, n + 1, g1, g2, hl⟩ k2
      · have hix : ixN (ns.map V.int).length (i : Int) = some i := by
          unfold ixN
          rw [if_pos (by omega), if_pos (by rw [List.length_map]; omega)]
          rfl
        refine ⟨_, rfl, _, rfl, _, _, rfl, rfl, ⟨hm, hm2⟩, _, rfl, a, _, _, _, rfl, rfl, SqL.of h1, rfl, _, rfl, a, _, _, _, rfl, rfl, SqL.of h1, rfl, c, _, _, _, rfl, rfl, h2, hix, ?_⟩
        refine ⟨_, rfl, .inl ⟨_, rfl, _, rfl, _, _, rfl, rfl, hm, ?_⟩⟩
        refine k _ _ (Int.emod_nonneg _ (by omega)) (Int.emod_lt_of_pos _ hm) ⟨ne, ns.set i (ns[i] / m), i, sm, n + 1, ?_, ?_, by rw [List.length_set]; exact hl⟩ (k1.trans fun b o e _ nb => by rw [upd_ne nb]; exact e)
        · rw [upd_ne ne]; exact h1
        · rw [upd_same, List.map_set]
end
end Oh
namespace Oh
open PySem PySem.Spec PyProof.Rows L2
/-- from the script's list: a new source -/
def spSource (K : PySem.W.Frag) : Sp := fun vs H Q _ => ∃ (a : Addr) (ns : List Int), vs = [.ref a] ∧ SqL K H a (ns.map V.int) ∧ ns.length ≤ 63 ∧ ∀ (p c : Addr) (H' : Hp), Same H H' → Src H' p c → Q (.ref p) H'
section
variable {P : Program} {w : World} {K : PySem.W.Frag} {mg : Str → Option Value} {base : Heap}
theorem Same.new {H : Hp} {p : Addr} {o : HO} (h : H p = none) : Same H (upd H p o) := fun b u e => by
  rw [upd_ne (ne_of_none e h)]
  exact e
theorem ints_at {ns : List Int} {i : Nat} {y : V} (h : (ns.map V.int)[i]? = some y) : ∃ z, y = .int z ∧ ns[i]? = some z := by
  rw [List.getElem?_map] at h
  cases e : ns[i]? with
  | none => rw [e] at h; cases h
  | some z => rw [e] at h; exact ⟨z, (Option.some.inj h).symm, rfl⟩
theorem cut_ints (ns : List Int) (lo hi : Option Int) : ∃ ms : List Int, cutV (ns.map V.int) lo hi = ms.map V.int ∧ ms.length ≤ ns.length := by
  unfold cutV
  refine ⟨(ns.drop _).take _, by rw [List.map_take, List.map_drop], ?_⟩
  rw [List.length_take, List.length_drop]
  omega
theorem scSource : FnScope ["_law_script", "_law_cells", "_law_cell"] ["_law_script"] (defScope sSource) := ⟨rfl, rfl, rfl, by decide +kernel, rfl, by decide +kernel, by decide +kernel⟩
theorem ok_source {f : Addr} {fd : FuncData} (F : Fun K "_law_source" "_law_source" sSource f fd) (T : TxtA mg) (mS : mg "sum" = none) : FnOk P w K mg base CX0 1 f fd ["_law_script"] (spSource K) := by
  refine F.ok scSource (fun vs H Q E h => ?_) (fun cdv A outer s H vs Q E hr h => ?_)
  · obtain ⟨a, ns, rfl, _⟩ := h
    rfl
  · obtain ⟨a, ns, rfl, ha, hl, k⟩ := h
    refine ⟨_, pss_cons (ps_setLc (i := 1) (own := [("_law_cell", 2)]) (g := gName 2) (tt := tYes) rfl scSource.nd rfl rfl (sw_true rfl rfl rfl (by decide +kernel)) (pi_list (pe_slice sl_list (pv 0) po_none (po_some pe_int)))
        (blkOk_by (N := ["_law_script", "_law_cells", "_law_cell"]) (sc := defScope sSource) (by decide +kernel)) (fun _ _ _ _ _ => pg_name (i := 2) scSource.nd rfl (Or.inl rfl)) (fun _ _ _ _ _ => pts_nil) (fun _ _ _ _ _ => pe_callTy call_int1 (by rfl) T.int boot_int (pa_cons (pv 2) pa_nil)))
      (pss_one (ps_ret (pe_lst (pa_cons (pv 1) (pa_cons pe_int (pa_cons (pe_op op_mod (pe_callTy call_int1 (by rfl) T.int boot_int (pa_cons (pe_callB (cr_sum rfl) (by rfl) mS (by decide +kernel) (pa_cons (pv 1) pa_nil)) pa_nil)) pe_int) (pa_cons pe_int pa_nil))))))), ?_⟩
    obtain ⟨ms, em, hm⟩ := cut_ints ns none (some 63)
    refine ⟨_, rfl, _, rfl, a, _, rfl, ha, fun p np => ?_⟩
    have hp : (upd H p (.lst (cutV (ns.map V.int) none (some 63)))) p = some (.lst (ms.map V.int)) := by rw [upd_same, em]
    refine ⟨p, rfl, ⟨_, SqL.of hp⟩, fun D hD => lc_list (K := K) (a := p) (xs := ms.map V.int) (fun i H2 => Same (upd H p (.lst (cutV (ns.map V.int) none (some 63)))) H2 ∧ H2 D = some (.lst ((ms.take i).map V.int)))
      ⟨Same.new hD, by rw [upd_same]; rfl⟩ (fun i H2 _ q => SqL.of (q.1 _ _ hp)) ?_ ?_⟩
    · rintro i y H2 hi ⟨q1, q2⟩
      obtain ⟨z, rfl, ez⟩ := ints_at hi
      refine ⟨rfl, _, rfl, .inl ⟨_, rfl, _, q2, ?_, ?_⟩⟩
      · rw [List.length_map, List.length_take]
        exact small1000 (by omega)
      · refine ⟨fun b o e => ?_, ?_⟩
        · rw [upd_ne (ne_of_none e hD)]
          exact q1 b o e
        · rw [upd_same, List.take_succ, ez]
          simp
    · rintro H2 ⟨q1, q2⟩
      rw [List.length_map, List.take_length] at q2
      refine ⟨_, rfl, _, rfl, _, _, rfl, SqL.of q2, .inl ⟨_, rfl, _, _, rfl, rfl, (by show (0 : Int) < 2147483629; decide), (by show 4 ≤ sizeLine; decide), fun r nr => ?_⟩⟩
      have nD : D ≠ r := ne_of_none q2 nr
      exact k r D _ ((Same.new np).trans (q1.trans (Same.new nr))) ⟨nD.symm, ms, 0, _, 0, by rw [upd_same]; rfl, by rw [upd_ne nD]; exact q2, by omega⟩
end
end Oh
namespace Oh
open PySem PySem.Spec PyProof.Rows L2
theorem bb_bool : bootBuiltins "bool" = some (.type "bool") := by decide +kernel
theorem bb_int : bootBuiltins "int" = some (.type "int") := by decide +kernel
theorem bb_str : bootBuiltins "str" = some (.type "str") := by decide +kernel
theorem bb_tuple : bootBuiltins "tuple" = some (.type "tuple") := by decide +kernel
theorem bb_list : bootBuiltins "list" = some (.type "list") := by decide +kernel
theorem bb_dict : bootBuiltins "dict" = some (.type "dict") := by decide +kernel
theorem bb_ValueError : bootBuiltins "ValueError" = some (.type "ValueError") := by decide +kernel
/-- isinstance(e, T), T a built-in class: its reading -/
def tIsi (K : PySem.W.Frag) (T : String) (te : TE) : TE := fun σ H Q => te σ H fun x H1 => ∃ (t : Value) (b : Bool), TyX K H1 x t ∧ PySem.W.kitOne K t (.type T) = some b ∧ Q (.bl b) H1
theorem PE.imp {X : Cx} {e : Expr} {t t' : TE} (h : PE X e t) (w : ∀ σ H Q, t' σ H Q → t σ H Q) : PE X e t' := ⟨fun pins s σ H Q I q => h.run pins s σ H Q I (w σ H Q q)⟩
/-- a reading may be weakened from within -/
def Mono (te : TE) : Prop := ∀ σ H (Q Q' : VK), (∀ v H', Q v H' → Q' v H') → te σ H Q → te σ H Q'
theorem mono_var {i : Nat} : Mono (tVar i) := fun σ H Q Q' w ⟨v, e, q⟩ => ⟨v, e, w _ _ q⟩
theorem pe_isi {X : Cx} {e : Expr} {te : TE} {x : Str} {T : String} {p q pos : Pos} (he : PE X e te) (mo : Mono te) (hi : X.mg "isinstance" = none) (hT : X.mg x = none) (hv : bootBuiltins x = some (.type T)) (hgi : Gl X "isinstance" := by rfl) (hg : Gl X x := by rfl)
    (hn : x ≠ "__name__" := by decide) (hd : (x == ("__debug__" : Str)) = false := by decide) (h1 : starEach [e, .Name x q] X.env = (false, eval e X.env) :: starEach [.Name x q] X.env := by rfl) (h2 : (backTo pos (starEach [.Name x q] X.env)).any (·.1) = false := by rfl)
    (h3 : starEach [.Name x q] X.env = (false, eval (.Name x q) X.env) :: starEach [] X.env := by rfl) : PE X (.Call (.Name "isinstance" p) [e, .Name x q] [] pos) (tIsi X.K T te) := by
  refine PE.imp (pe_callB (r := rIsi X.K) (hc := call_isi) hgi hi (by decide +kernel) (pa_cons he (pa_cons (pe_bltn (v := .ty T) hg hT hv rfl hn hd) pa_nil h3) h1) (he := h1) (hpl := h2)) fun σ H Q w => mo σ H _ _ (fun v H' ⟨t, b, ty, k, qq⟩ => ⟨v, .ty T, t, .type T, b, rfl, .ty _, ty, k, qq⟩) w
end Oh
namespace Oh
open PySem PySem.Spec PyProof.Rows L2
theorem PA.imp {X : Cx} {es : List Expr} {t t' : TA} (h : PA X es t) (w : ∀ σ H Q, t' σ H Q → t σ H Q) : PA X es t' := ⟨fun pos pins s σ H Q I q => h.run pos pins s σ H Q I (w σ H Q q)⟩
/-- at a: an error of the class at C with the value v -/
def ErrAt (H : Hp) (a C : Addr) (v : V) : Prop := ∃ d, H a = some (exo a C (some d)) ∧ H d = some (exd d [("what", v)])
theorem ErrAt.keep {H H' : Hp} {a C : Addr} {v : V} (e : ErrAt H a C v) (s : Same H H') : ErrAt H' a C v := by
  obtain ⟨d, h1, h2⟩ := e
  exact ⟨d, s _ _ h1, s _ _ h2⟩
/-- what the written part says of an error class; f1: the __init__ that it has from the base class -/
structure ErrC (K : PySem.W.Frag) (f1 C : Addr) : Prop where
  ox : OexC K C
  ec : ExcC K C
  xf : XfC K C
  no : PySem.W.findIn K (.ref C) "what" = some none
  ini : PySem.W.findIn K (.ref C) "__init__" = some (some (.ref f1))
/-- self.what = what -/
def spEInit (K : PySem.W.Frag) (f1 : Addr) : Sp := fun vs H Q _ => ∃ (a C : Addr) (v : V), vs = [.ref a, v] ∧ ErrC K f1 C ∧ H a = some (exo a C none) ∧ ∀ H', (∀ b o, H b = some o → b ≠ a → H' b = some o) → ErrAt H' a C v → Q .non H'
/-- a new error of the class at C, whose value g tells -/
def tErr (g : L2.St → V → Prop) (C : Addr) : TE := fun σ H Q => ∃ v, g σ v ∧ ∀ a H', H a = none → Same H H' → ErrAt H' a C v → Q (.ref a) H'
/-- several of them -/
def Errs (H : Hp) (v : V) (as Cs : List Addr) : Prop := Paired (fun a C => ErrAt H a C v) as Cs
theorem Errs.keep {H H' : Hp} {v : V} (s : Same H H') : ∀ {as Cs : List Addr}, Errs H v as Cs → Errs H' v as Cs
  | _, _, .nil => .nil
  | _, _, .cons h t => .cons (h.keep s) (Errs.keep s t)
theorem Errs.append {H : Hp} {v : V} : ∀ {as Cs bs Ds : List Addr}, Errs H v as Cs → Errs H v bs Ds → Errs H v (as ++ bs) (Cs ++ Ds)
  | _, _, _, _, .nil, h => h
  | _, _, _, _, .cons a t, h => .cons a (Errs.append t h)
def tErrs (g : L2.St → V → Prop) (Cs : List Addr) : TA := fun σ H Q => ∃ v, g σ v ∧ ∀ as H', Same H H' → Errs H' v as Cs → Q (as.map V.ref) H'
def Det (g : L2.St → V → Prop) : Prop := ∀ σ v v', g σ v → g σ v' → v = v'
section
variable {X : Cx} {e : Expr} {es : List Expr} {g : L2.St → V → Prop} {C f1 : Addr} {Cs : List Addr}
theorem pa_errs0 (g : L2.St → V → Prop) : PA X [] (tErrs g []) := PA.imp pa_nil fun σ H Q ⟨v, _, q⟩ => q [] H (Same.refl H) .nil
theorem pa_errs (dg : Det g) (he : PE X e (tErr g C)) (hr : PA X es (tErrs g Cs)) (hs : starEach (e :: es) X.env = (false, eval e X.env) :: starEach es X.env := by rfl) : PA X (e :: es) (tErrs g (C :: Cs)) := by
  refine PA.imp (pa_cons he hr hs) fun σ H Q h => ?_
  obtain ⟨v, gv, q⟩ := h
  refine ⟨v, gv, fun a H1 _ s1 e1 => ⟨v, gv, fun as H2 s2 e2 => ?_⟩⟩
  exact q (a :: as) H2 (s1.trans s2) (.cons (e1.keep s2) e2)
variable {CX : CXT} {x : Str} {k : Nat} {fd : FuncData} {ps : List Str} {ds : List Value} {dvs : List V} {ta : TA} {p pos : Pos}
theorem err_of {H H' : Hp} {a C : Addr} (na : H a = none) (hk : ∀ b o, upd H a (exo a C none) b = some o → b ≠ a → H' b = some o) : Same H H' := fun b o e => by
  have nb := ne_of_none e na
  exact hk b o (by rw [upd_ne nb]; exact e) nb
/-- C(e) -/
theorem pe_err1 {te : TE} (T : ErrC X.K f1 C) (tI : PySem.W.typeIn X.K (.ref f1) = some (.type "function")) (F1 : FnOk X.prog X.w X.K X.mg X.base CX0 k f1 fd ps (spEInit X.K f1)) (hr : Room (k + 1) X.A) (hb : Binds X.K fd ps []) (hm : X.mg x = some (.ref C)) (he : PE X e te)
    (hte : ∀ σ H Q, (∃ v, g σ v ∧ Q v H) → te σ H Q) (hg : Gl X x := by rfl) (hdb : (x == ("__debug__" : Str)) = false := by decide)
    (h1 : starEach [e] X.env = (false, eval e X.env) :: starEach [] X.env := by rfl) (hpl : (backTo pos (starEach [] X.env)).any (·.1) = false := by rfl) : PE X (.Call (.Name x p) [e] [] pos) (tErr g C) := by
  refine PE.imp (pe_mke T.ox T.ini tI F1 hr hb .nil pass0 hg hm (pa_cons he pa_nil h1) hdb h1 hpl) fun σ H Q h => ?_
  obtain ⟨v, gv, q⟩ := h
  refine hte σ H _ ⟨v, gv, (by show 1 ≤ 1000; decide), fun a na => ⟨a, C, v, rfl, T, upd_same, fun H' hk e1 => ⟨rfl, ?_⟩⟩⟩
  exact q a H' na (err_of na hk) e1
/-- C() -/
theorem pe_err0 (T : ErrC X.K f1 C) (tI : PySem.W.typeIn X.K (.ref f1) = some (.type "function")) (F1 : FnOk X.prog X.w X.K X.mg X.base CX0 k f1 fd ps (spEInit X.K f1)) (hr : Room (k + 1) X.A) (hb : Binds X.K fd ps ds) (hd : Vals [V.non] ds) (hm : X.mg x = some (.ref C))
    (hg : Gl X x := by rfl) (hdb : (x == ("__debug__" : Str)) = false := by decide) : PE X (.Call (.Name x p) [] [] pos) (tErr (fun _ v => v = .non) C) := by
  refine PE.imp (pe_mke0 T.ox T.ini tI F1 hr hb hd pass0 hg hm hdb) fun σ H Q h => ?_
  obtain ⟨v, rfl, q⟩ := h
  refine ⟨by decide, fun a na => ⟨a, C, .non, rfl, T, upd_same, fun H' hk e1 => ⟨rfl, ?_⟩⟩⟩
  exact q a H' na (err_of na hk) e1
end
/-! ### isinstance of an error, of several classes -/
def IsE (H : Hp) (a D : Addr) : Prop := ∃ d fs, H a = some (exo a D (some d)) ∧ H d = some (exd d fs)
theorem ErrAt.is {H : Hp} {a C : Addr} {v : V} (e : ErrAt H a C v) : IsE H a C := by
  obtain ⟨d, h1, h2⟩ := e
  exact ⟨d, _, h1, h2⟩
theorem IsE.keep {H H' : Hp} {a D : Addr} (e : IsE H a D) (s : Same H H') : IsE H' a D := by
  obtain ⟨d, fs, h1, h2⟩ := e
  exact ⟨d, fs, s _ _ h1, s _ _ h2⟩
def tIsC (K : PySem.W.Frag) (cv : Value) (te : TE) : TE := fun σ H Q => te σ H fun x H1 => ∃ (a D : Addr) (b : Bool), x = .ref a ∧ IsE H1 a D ∧ ExcC K D ∧ PySem.W.kitOne K (.ref D) cv = some b ∧ Q (.bl b) H1
section
variable {X : Cx} {e : Expr} {es : List Expr} {x : Str} {C : Addr} {te : TE} {p q pos : Pos}
theorem pe_isc (he : PE X e te) (mo : Mono te) (hi : X.mg "isinstance" = none) (hm : X.mg x = some (.ref C)) (hgi : Gl X "isinstance" := by rfl) (hg : Gl X x := by rfl) (hd : (x == ("__debug__" : Str)) = false := by decide)
    (h1 : starEach [e, .Name x q] X.env = (false, eval e X.env) :: starEach [.Name x q] X.env := by rfl) (h2 : (backTo pos (starEach [.Name x q] X.env)).any (·.1) = false := by rfl) (h3 : starEach [.Name x q] X.env = (false, eval (.Name x q) X.env) :: starEach [] X.env := by rfl) :
    PE X (.Call (.Name "isinstance" p) [e, .Name x q] [] pos) (tIsC X.K (.ref C) te) := by
  refine PE.imp (pe_callB (r := rIsV X.K) (hc := call_isV) hgi hi (by decide +kernel) (pa_cons he (pa_cons (pe_glob (v := .ref C) hg hm rfl hd) pa_nil h3) h1) (he := h1) (hpl := h2)) fun σ H Q w => mo σ H _ _ (fun v H' ⟨a, D, b, ev, ⟨d, fs, ea, ed⟩, ec, k, qq⟩ => ?_) w
  exact ⟨a, D, d, fs, .ref C, .ref C, b, by rw [ev], ea, ed, ec, .own C, k, qq⟩
/-- a built-in class in the second place -/
theorem pe_isb {T : String} (he : PE X e te) (mo : Mono te) (hi : X.mg "isinstance" = none) (hT : X.mg x = none) (hv : bootBuiltins x = some (.type T)) (hgi : Gl X "isinstance" := by rfl) (hg : Gl X x := by rfl) (hn : x ≠ "__name__" := by decide) (hd : (x == ("__debug__" : Str)) = false := by decide)
    (h1 : starEach [e, .Name x q] X.env = (false, eval e X.env) :: starEach [.Name x q] X.env := by rfl) (h2 : (backTo pos (starEach [.Name x q] X.env)).any (·.1) = false := by rfl) (h3 : starEach [.Name x q] X.env = (false, eval (.Name x q) X.env) :: starEach [] X.env := by rfl) :
    PE X (.Call (.Name "isinstance" p) [e, .Name x q] [] pos) (tIsC X.K (.type T) te) := by
  refine PE.imp (pe_callB (r := rIsV X.K) (hc := call_isV) hgi hi (by decide +kernel) (pa_cons he (pa_cons (pe_bltn (v := .ty T) hg hT hv rfl hn hd) pa_nil h3) h1) (he := h1) (hpl := h2)) fun σ H Q w => mo σ H _ _ (fun v H' ⟨a, D, b, ev, ⟨d, fs, ea, ed⟩, ec, k, qq⟩ => ?_) w
  exact ⟨a, D, d, fs, .ty T, .type T, b, by rw [ev], ea, ed, ec, .ty T, k, qq⟩
/-- the answers for several classes -/
def Kits (K : PySem.W.Frag) (D : Addr) (Cs : List Addr) (bs : List Bool) : Prop := Paired (fun C b => PySem.W.kitOne K (.ref D) (.ref C) = some b) Cs bs
def tFl (K : PySem.W.Frag) (i : Nat) (Cs : List Addr) : TA := fun σ H Q => ∃ a D bs, σ[i]? = some (some (.ref a)) ∧ IsE H a D ∧ ExcC K D ∧ Kits K D Cs bs ∧ Q (bs.map V.bl) H
theorem pa_fl0 (K : PySem.W.Frag) (i : Nat) : PA X [] (tFl K i []) := PA.imp pa_nil fun σ H Q ⟨a, D, bs, _, _, _, kk, q⟩ => by
  cases kk
  exact q
theorem pa_fl {i : Nat} {Cs : List Addr} (he : PE X e (tIsC X.K (.ref C) (tVar i))) (hr : PA X es (tFl X.K i Cs)) (hs : starEach (e :: es) X.env = (false, eval e X.env) :: starEach es X.env := by rfl) : PA X (e :: es) (tFl X.K i (C :: Cs)) := by
  refine PA.imp (pa_cons he hr hs) fun σ H Q h => ?_
  obtain ⟨a, D, bs, ea, hE, ec, kk, qq⟩ := h
  cases kk with
  | cons k1 kr => exact ⟨_, ea, a, D, _, rfl, hE, ec, k1, a, D, _, ea, hE, ec, kr, qq⟩
end
end Oh
namespace Oh
open PySem PySem.Spec PyProof.Rows L2
theorem Src.some_a {H : Hp} {a c : Addr} (s : Src H a c) : ∃ o, H a = some o := by
  obtain ⟨_, ns, i, sm, k, h1, _⟩ := s
  exact ⟨_, h1⟩
theorem Src.some_c {H : Hp} {a c : Addr} (s : Src H a c) : ∃ o, H c = some o := by
  obtain ⟨_, ns, i, sm, k, _, h2, _⟩ := s
  exact ⟨_, h2⟩
theorem free_ne {H : Hp} {a p : Addr} (s : ∃ o, H a = some o) (h : H p = none) : p ≠ a := fun e => by
  obtain ⟨o, q⟩ := s
  rw [e, q] at h
  cases h
theorem dom_back {H H' : Hp} {a c p : Addr} (k : Keep a c H H') (s' : Src H' a c) (h : H' p = none) : H p = none := by
  cases e : H p with
  | none => rfl
  | some o =>
    have q := k p o e (free_ne s'.some_a h) (free_ne s'.some_c h)
    rw [h] at q
    cases q
theorem Src.of_ne {H : Hp} {a c p : Addr} {o : HO} (s : Src H a c) (h1 : a ≠ p) (h2 : c ≠ p) : Src (upd H p o) a c := by
  obtain ⟨n, ns, i, sm, k, x1, x2, x3⟩ := s
  exact ⟨n, ns, i, sm, k, by rw [upd_ne h1]; exact x1, by rw [upd_ne h2]; exact x2, x3⟩
theorem Src.new {H : Hp} {a c p : Addr} {o : HO} (s : Src H a c) (h : H p = none) : Src (upd H p o) a c := s.of_ne (free_ne s.some_a h).symm (free_ne s.some_c h).symm
theorem never_ok {P : Program} {w : World} {K : PySem.W.Frag} {mg : Str → Option Value} {base : Heap} {CX : CXT} {k : Nat} {f : Addr} {fd : FuncData} {ps : List Str} : FnOk P w K mg base CX k f fd ps (fun _ _ _ _ => False) :=
  ⟨fun _ _ _ _ h => h.elim, fun _ _ _ _ _ _ _ _ _ _ _ _ _ h => h.elim⟩
theorem log2_small {m : Int} (h0 : 0 < m) (h : m < 2 ^ 200) : m.natAbs.log2 < 9000 := by
  have z : m.natAbs < 2 ^ 200 := by omega
  exact Nat.lt_trans (PySem.Flt.log2_lt_of (by decide) z) (by decide)
theorem keyI {i j : Nat} (h : (Sum.inl (i : Int) : L2.Key) = Sum.inl (j : Int)) : i = j := by
  have z := Sum.inl.inj h
  omega
theorem mem_map_get {α : Type} {xs : List α} {i : Nat} {x : α} (h : xs[i]? = some x) : x ∈ xs := by
  obtain ⟨h1, h2⟩ := List.getElem?_eq_some_iff.mp h
  exact h2 ▸ List.getElem_mem h1
structure TxtO (mg : Str → Option Value) : Prop extends TxtA mg where
  range : mg "range" = none
  tuple : mg "tuple" = none
structure TxtI (mg : Str → Option Value) : Prop where
  isi : mg "isinstance" = none
  bool : mg "bool" = none
  int : mg "int" = none
  str : mg "str" = none
  tuple : mg "tuple" = none
  list : mg "list" = none
  dict : mg "dict" = none
  len : mg "len" = none
  range : mg "range" = none
theorem kitNo {K : PySem.W.Frag} {a b : String} (h : kitB a b = some false) : PySem.W.kitOne K (.type a) (.type b) = some false := kit_ty h
theorem kitYes {K : PySem.W.Frag} {a b : String} (h : kitB a b = some true) : PySem.W.kitOne K (.type a) (.type b) = some true := kit_ty h
theorem small9 {n : Nat} (h : n ≤ 1000) : n ≤ sizeLine := Nat.le_of_lt (small1000 h)
theorem free1 {H H1 : Hp} {p : Addr} (s : Same H H1) (h : H1 p = none) : H p = none := s.free h
abbrev sEInit : Stmt := inClass (top 42) 0
theorem scEInit : FnScope ["self", "what"] ["self", "what"] (defScope sEInit) := ⟨rfl, rfl, rfl, by decide +kernel, rfl, by decide +kernel, by decide +kernel⟩
section
variable {P : Program} {w : World} {K : PySem.W.Frag} {mg : Str → Option Value} {base : Heap} {f1 : Addr} {cs : Nat → Addr}
abbrev EInit (K : PySem.W.Frag) (f : Addr) (fd : FuncData) : Prop := FunD K "__init__" "HeardError.__init__" (defArgs sEInit) (defBody sEInit) (defScope sEInit) [V.non] [] f fd
theorem ok_einit {fd : FuncData} (F : EInit K f1 fd) : FnOk P w K mg base CX0 1 f1 fd ["self", "what"] (spEInit K f1) := by
  refine F.ok scEInit (fun vs H Q E h => ?_) (fun cdv A outer s H vs Q E hr h => ?_)
  · obtain ⟨a, C, v, rfl, _⟩ := h
    rfl
  · obtain ⟨a, C, v, rfl, T, ha, k⟩ := h
    refine ⟨_, pss_one (ps_ost (pv 0) (pv 1)), ?_⟩
    refine ⟨_, rfl, _, rfl, a, C, rfl, T.ox, T.no, .inl ⟨ha, fun dx nd ne => ?_⟩⟩
    exact k _ (fun b o e nb => by rw [upd_ne nb, upd_ne (ne_of_none e nd)]; exact e) ⟨dx, upd_same, by rw [upd_ne ne]; exact upd_same⟩
theorem b_einit2 {fd : FuncData} (F : EInit K f1 fd) : Binds K fd ["self", "what"] [] := by
  obtain ⟨ds, r, b⟩ := F.binds1 (ps := ["self", "what"]) 2 1 (by decide) rfl fun T kV doc pm an cdv ct us its h1 h2 => match us, its, h1, h2 with | [_, _], [_], _, _ => ⟨_, rfl, rfl⟩
  cases r
  exact b
theorem b_einit1 {fd : FuncData} (F : EInit K f1 fd) : ∃ ds, Vals [V.non] ds ∧ Binds K fd ["self", "what"] ds :=
  F.binds1 (ps := ["self", "what"]) 1 0 (by decide) rfl fun T kV doc pm an cdv ct us its h1 h2 => match us, its, h1, h2 with | [_], [_], _, _ => ⟨_, rfl, rfl⟩
end
end Oh
/-! enumerate(a tuple) -/
namespace PySem
open Sem (wp)
open AutoSeq1 (wpAny_loadPart')
theorem enumT_new (l : Addr) (items : Array Value) (n : Nat) (dct : Option Addr) (sl : Array (Option Value)) :
    Meets (Builtin.«enumerate.__new__» ⟨[.type "enumerate", .ref l], []⟩) (fun _ R s => s.heap.get? l = some { cls := .type "tuple", dict := dct, data := .seq items n, slots := sl } ∧
      R (.ok (.ret (.ref (s.heap.push { cls := .type "tuple_iterator", data := .fields #[.ref l, .int 0 0] }).objs.size)))
        { s with heap := (s.heap.push { cls := .type "tuple_iterator", data := .fields #[.ref l, .int 0 0] }).push { cls := .type "enumerate", data := .fields #[.none, .bool false, .ref s.heap.objs.size, rawInt 0, .none, .none] } }) :=
  .of_wp fun prog w A R s h => by
    obtain ⟨hp, g, d, tk, os⟩ := s
    obtain ⟨hl, h⟩ := h
    have is1 := sub_enumerate
    have tt : Heap.IsTuple (Shared.heap ⟨hp, g, d, tk, os⟩) l items := ⟨_, hl, rfl, n, rfl⟩
    wp_walk using wpAny_loadPart' hl
    refine wpAny_stack_any fun st => wpAny_pure ?_
    split
    · rename_i c _ _ _ _ _
      cases (c == Value.type "enumerate")
      all_goals
        wp_walk using wpAny_loadPart' hl, wpAny_pyIter_tuple tt
        exact ⟨_, rfl, h⟩
    · wp_walk using wpAny_loadPart' hl, wpAny_pyIter_tuple tt
      exact ⟨_, rfl, h⟩
theorem enumT_call {prog : Program} {w : World} {A : Around} {E : Value → Shared → Prop} {s : Shared} {l : Addr} {items : Array Value} {Q : Value → Shared → Prop} (tt : s.heap.IsTuple l items)
    (h : ∀ h', IsEnum h' (s.heap.objs.size + 1) s.heap.objs.size 0 .none → h'.IsTupleIter s.heap.objs.size l 0 → h'.objs.size = s.heap.objs.size + 2 → (∀ b o, s.heap.get? b = some o → h'.get? b = some o) → Q (.ref (s.heap.objs.size + 1)) { s with heap := h' }) :
    wpAny (model prog w) A (call (.type "enumerate") [.ref l]) Q E s := by
  obtain ⟨⟨c, dct, dt, sl⟩, hl, hc, n, hd⟩ := tt
  replace hc : c = .type "tuple" := hc
  replace hd : dt = .seq items n := hd
  subst hc hd
  refine callType_new F.called_enumerate (by decide) (F.typeCall_enumerate_1 _) (F.newCall_enumerate_1 _) (fun obj => F.args_object_init_2 obj _) F.entry_enumerate_new (enumT_new l items n dct sl) ⟨hl, ?_⟩
  have z : (s.heap.push { cls := .type "tuple_iterator", data := .fields #[.ref l, .int 0 0] }).objs.size = s.heap.objs.size + 1 := Heap.size_push ..
  show _ ∧ _
  rw [z]
  have e1 : IsEnum ((s.heap.push { cls := .type "tuple_iterator", data := .fields #[.ref l, .int 0 0] }).push { cls := .type "enumerate", data := .fields #[.none, .bool false, .ref s.heap.objs.size, rawInt 0, .none, .none] }) (s.heap.objs.size + 1) s.heap.objs.size 0 .none := by
    have q := Heap.get?_push_size (s.heap.push { cls := .type "tuple_iterator", data := .fields #[.ref l, .int 0 0] }) (o := { cls := .type "enumerate", data := .fields #[.none, .bool false, .ref s.heap.objs.size, rawInt 0, .none, .none] }) rfl
    rw [z] at q
    exact q
  exact ⟨⟨_, e1, rfl⟩, h _ e1 ⟨_, Heap.get?_push_of_some _ (Heap.get?_push_size _ rfl), rfl, rfl⟩ (by rw [Heap.size_push, z]) fun b o x => Heap.get?_push_of_some _ (Heap.get?_push_of_some _ x)⟩
end PySem
namespace L2
open PySem PySem.Spec PyProof.Rows
/-- the tuple at a, each item in a new pair with its place -/
def IteT (K : PySem.W.Frag) (a : Addr) : It :=
  ⟨fun i H => ∃ (xs : List V) (x : V), SqT K H a xs ∧ xs[i]? = some x, fun i H v H' => ∃ T x, v = .ref T ∧ H T = none ∧ H' = upd H T (.tup [.int (i : Nat), x]) ∧ ∀ xs, SqT K H a xs → xs[i]? = some x, fun i H => ∃ xs : List V, SqT K H a xs ∧ xs.length ≤ i⟩
theorem turn_enumT {P : Program} {w : World} {K : PySem.W.Frag} {elts : List Expr} {kk : Nat} {tpos : Pos} (a e it : Addr) :
    Turn P w K (.Tuple elts kk tpos) (IteT K a) [e, it] e (fun i h => (∃ old, IsEnum h e it ((i : Nat) : Int) old) ∧ h.IsTupleIter it a i ∧ e ≠ it) where
  mem := by simp
  obj := fun i h st b hb => by
    obtain ⟨⟨old, he⟩, ⟨o, ho, hc, hd⟩, _⟩ := st
    rcases (show b = e ∨ b = it by simpa using hb) with z | z
    · rw [z]; exact ⟨_, he, fun v q => nomatch q⟩
    · rw [z]; exact ⟨o, ho, fun v q => by rw [hd] at q; cases q⟩
  keep := fun i h h' st k => let ⟨⟨old, he⟩, hi, hne⟩ := st; ⟨⟨old, k e (by simp) _ he⟩, hi.at fun o q => k it (by simp) o q, hne⟩
  item := by
    intro X hP hw hK hc i pins s σ H E I hf st hg
    subst hP hw hK
    obtain ⟨⟨old, he⟩, hit, hne⟩ := st
    obtain ⟨xs, x, hq, hx⟩ := hg
    obtain ⟨its, rv, p, hz⟩ := I.tuple hq
    obtain ⟨u, hu, ru⟩ := rv.get hx
    have hel : e < s.heap.objs.size := Heap.lt_size he
    have hil : it < s.heap.objs.size := by obtain ⟨_, q, _⟩ := hit; exact Heap.lt_size q
    have tt : s.heap.IsTuple a its.toArray := p
    have hhd : X.A.in1.handled = none := I.ok.hd hc
    have ane : a ≠ it := fun z => by
      obtain ⟨o, q1, q2, _⟩ := hit
      obtain ⟨o', r1, r2, _⟩ := tt
      rw [z, q1] at r1
      cases r1
      rw [q2] at r2
      exact absurd (Value.type.inj r2) (by decide)
    have hea : e ≠ a := fun z => by
      obtain ⟨o', r1, r2, _⟩ := tt
      have h1 : s.heap.get? e = _ := he
      rw [z, r1] at h1
      cases h1
      exact absurd (Value.type.inj r2) (by decide)
    have hi : i < its.toArray.size := by
      obtain ⟨h1, _⟩ := List.getElem?_eq_some_iff.mp hu
      simpa using h1
    refine wpAny_pyNext_enum_itemD (Draws.tuple hhd it a ane its.toArray) he ⟨hit, tt⟩ hi hne (by simp [hne, hea]) fun y h' tk hy ho st1 hT hsz hk => ?_
    have ey : y = u := Option.some.inj (hy.symm.trans (by simpa using hu))
    subst ey
    refine ⟨_, rfl, wpAny_letOwnedTupleGo_enum (s := { s with heap := h', toks := tk + 1 }) ho fun h'' he' sb => ?_⟩
    have hT2 : h''.get? s.heap.objs.size = some { cls := .type "tuple", data := .seq #[.int i tk, y] } := (sb.2 _ (Nat.ne_of_gt hel)).trans hT
    have new : ObjOk X.prog X.w (upd H s.heap.objs.size (.tup [.int (i : Nat), x])) h'' s.heap.objs.size (.tup [.int (i : Nat), x]) :=
      ⟨by show 2 ≤ sizeLine; decide, [.int i tk, y], .cons ⟨_, rfl⟩ (.cons ru .nil), ⟨_, hT2, rfl, _, rfl⟩⟩
    have I1 : Inv X pins σ (upd H s.heap.objs.size (.tup [.int (i : Nat), x])) { s with heap := h'', toks := tk + 1 } :=
      I.turnedNew (ch := [e, it]) (fun b ob hb q => (sb.2 b (fun z => hb (by simp [z]))).trans (hk b ob (fun z => hb (by simp [z])) (fun z => hb (by simp [z])) q)) hf (Nat.le_refl _) new
    refine ⟨.ref s.heap.objs.size, _, I1, rfl, ⟨_, x, rfl, I.hok.fresh (Nat.le_refl _), rfl, fun ys hy => by rw [I.tuple_inj hy hq]; exact hx⟩, ⟨⟨y, ?_⟩, st1.1.at fun o q => (sb.2 it (Ne.symm hne)).trans q, hne⟩, fun b hb => ?_⟩
    · rw [show ((i + 1 : Nat) : Int) = (i : Int) + 1 by omega]
      exact he'
    · have lt : b < s.heap.objs.size := by
        rcases (show b = e ∨ b = it by simpa using hb) with z | z
        · rw [z]; exact hel
        · rw [z]; exact hil
      rw [upd_ne (Nat.ne_of_lt lt)]
      exact (hf b hb).1
  done := by
    intro X hP hw hK hc i pins s σ H E I hf st hg
    subst hP hw hK
    obtain ⟨⟨old, he⟩, hit, hne⟩ := st
    obtain ⟨xs, hq, hx⟩ := hg
    obtain ⟨its, rv, p, hz⟩ := I.tuple hq
    obtain ⟨f0, f1, f2, f3, f4, f5⟩ := hf it (by simp)
    have tt : s.heap.IsTuple a its.toArray := p
    have hhd : X.A.in1.handled = none := I.ok.hd hc
    have hT : s.TypeIs (.ref e) "enumerate" := ⟨_, he, rfl⟩
    have gone : its.toArray[i]? = none := by
      have hl := rv.length
      simp
      omega
    unfold pyNext
    refine wpAny_bind (wpAny_attempt (wpAny_callSpecial?_slot (name := Str.ofString "__next__") hT F.slot_enumerate_next (wpAny_call_entry F.slot_enumerate_next hT F.entry_enumerate_next ?_ (F.args_enumerate_next_1 _))))
    show wpAny _ _ (field (.ref e) 2 >>= _) _ _ _
    refine wpAny_bind (wpAny_field he rfl (x := .ref it) rfl ?_)
    refine wpAny_bind (wpAny_nextOf_tuple_end hhd hit tt gone fun h' x he' hx' => ?_)
    obtain ⟨o, ho, hcl⟩ := hx'
    refine wpAny_bind (wpAny_isInstance (T := "StopIteration") (b := true) ⟨o, ho, hcl⟩ isSubtype_stop ?_)
    exact wpAny_pure ⟨rfl, I.turned (t' := s.toks) (fun b o hb q => he' b o hb q) f0 f1 f3 f4 f5⟩
  self := fun A i s Q E st h => let ⟨⟨_, he⟩, _⟩ := st; wpAny_pyIter_enum he h
def iEnumT (K : PySem.W.Frag) (ta : TA) : TI := fun σ H R => ta σ H fun vs H1 => ∃ a xs, vs = [.ref a] ∧ SqT K H1 a xs ∧ R (IteT K a) H1
theorem pi_enumT {X : Cx} {e : Expr} {ta : TA} {p pos tpos : Pos} {elts : List Expr} {kk : Nat} (hg : Gl X "enumerate") (hm : X.mg "enumerate" = none) (ha : PA X [e] ta) (hs : starEach [e] X.env = [(false, eval e X.env)] := by rfl) :
    PI X (.Tuple elts kk tpos) (.Call (.Name "enumerate" p) [e] [] pos) (iEnumT X.K ta) := by
  refine ⟨fun pins s σ H R I h => ?_⟩
  refine Call_ (ld_blt I hg hm boot_enumerate (PyProof.Rows.callWith_type1 (thn (ha.run pos pins s σ H _ I h) fun us s1 ⟨vs, H1, I1, r1, a, xs, ex, hq, q⟩ => ?_) hs rfl))
  subst ex
  cases r1 with
  | cons r rr =>
    cases rr
    cases r
    obtain ⟨its, rv, p', hz⟩ := I1.tuple hq
    have tt : s1.heap.IsTuple a its.toArray := p'
    refine enumT_call tt fun h' he hit hsz hk => wpAny_pyIter_enum he ?_
    refine ⟨s1.heap.objs.size + 1, [s1.heap.objs.size + 1, s1.heap.objs.size], _, _, H1, rfl, I1.kept (t' := s1.toks) hk, turn_enumT a (s1.heap.objs.size + 1) s1.heap.objs.size, ⟨⟨.none, he⟩, hit, Nat.succ_ne_self _⟩, fun b hb => ?_, q⟩
    have le : s1.heap.objs.size ≤ b := by
      rcases (show b = s1.heap.objs.size + 1 ∨ b = s1.heap.objs.size by simpa using hb) with z | z
      · rw [z]; exact Nat.le_add_right _ _
      · rw [z]; exact Nat.le_refl _
    exact I1.fpOk le (I1.hok.fresh le)
end L2
namespace Oh
open PySem PySem.Spec PyProof.Rows L2
/-- a text that is, or is not, a key of a written dict -/
def rKdNotIn (K : PySem.W.Frag) (w : World) : R2 := fun x y H Q => ∃ p z, x = .str z ∧ y = .ref p ∧ ((∃ v, KDct K w p z v ∧ (p == sysModules) = false ∧ Q (.bl false) H) ∨ (KMiss K w p z ∧ Q (.bl true) H))
theorem op_kdNotIn {X : Cx} : OpR X (compareOp .NotIn) (rKdNotIn X.K X.w) := by
  intro pins s σ H x y v u Q I rx ry h
  obtain ⟨p, z, rfl, rfl, h⟩ := h
  obtain ⟨t, rfl⟩ := (show ∃ t, v = Value.str z t from rx)
  obtain rfl : u = Value.ref p := ry
  rcases h with ⟨r, kd, lo, q⟩ | ⟨⟨es, n, hl, hk, lo, hm⟩, q⟩
  · obtain ⟨es, n, u0, hl, hk, e, ru⟩ := kd
    have hm := PySem.W.mapOf_K (prog := X.prog) (w := X.w) I.kIn hl hk
    refine wpAny_notIn_of (strKind_is X.prog X.w z t) lo hm ?_
    rw [PySem.W.find_K hl e]
    exact ⟨.bl false, H, I.tok _, rfl, q⟩
  · have hm' := PySem.W.mapOf_K (prog := X.prog) (w := X.w) I.kIn hl hk
    refine wpAny_notIn_of (strKind_is X.prog X.w z t) lo hm' ?_
    rw [PySem.W.find_K hl hm]
    exact ⟨.bl true, H, I.tok _, rfl, q⟩
end Oh
namespace Oh
open PySem PySem.Spec PyProof.Rows L2
abbrev sIsBlock : Stmt := top 14
abbrev sHeadOf : Stmt := top 15
abbrev sIsStatement : Stmt := top 17
abbrev sIsWord : Stmt := top 26
abbrev sBlocksOf : Stmt := top 28
abbrev sFirstWrong : Stmt := top 33
abbrev sIsWrong : Stmt := top 34
abbrev sDeals : Stmt := top 35
abbrev sIsSound : Stmt := top 36
abbrev sCount : Stmt := top 39
abbrev sLaid : Stmt := top 40
abbrev sCheck : Stmt := top 48
theorem pe_never {X : Cx} {e : Expr} : PE X e (fun _ _ _ => False) := ⟨fun _ _ _ _ _ _ h => h.elim⟩
theorem walk_enumT {K : PySem.W.Frag} {a : Addr} {xs : List V} : Walk (IteT K a) xs.length (fun H => SqT K H a xs) (YPair (fun i => some (.int (i : Nat))) (fun i => xs[i]?)) := by
  refine ⟨fun i _ hi q => ⟨xs, xs[i], q, by simp [hi]⟩, fun _ q => ⟨xs, q, Nat.le_refl _⟩, fun i H v H' _ q y => ?_⟩
  obtain ⟨T, x, h1, h2, h3, h4⟩ := y
  exact ⟨T, .int (i : Nat), x, h1, h2, h3, rfl, h4 xs q⟩
/-- the statement ("home",), at S -/
def HomeS (H : Hp) (S : Addr) : Prop := H S = some (.tup [.str "home"])
/-- the block of it alone, at B -/
def HomeB (H : Hp) (B S : Addr) : Prop := H B = some (.tup [.ref S]) ∧ HomeS H S
theorem HomeB.keep {H H' : Hp} {B S : Addr} (h : HomeB H B S) (s : Same H H') : HomeB H' B S := ⟨s _ _ h.1, s _ _ h.2⟩
/-- is_block: of a tuple, of a list -/
def spIsBlock : Sp := fun vs H Q _ => ∃ p, vs = [.ref p] ∧ ((∃ xs, H p = some (.tup xs) ∧ xs.length ≤ 12 ∧ Q (.bl true) H) ∨ ∃ xs, H p = some (.lst xs) ∧ Q (.bl false) H)
structure TxtP (mg : Str → Option Value) : Prop extends TxtI mg where
  longest : ∃ t, mg "LONGEST_BLOCK" = some (.int 12 t)
  deepest : ∃ t, mg "DEEPEST_BLOCK" = some (.int 12 t)
  most : ∃ t, mg "MOST_STATEMENTS" = some (.int 6000 t)
  sum : mg "sum" = none
  enum : mg "enumerate" = none
section
variable {P : Program} {w : World} {K : PySem.W.Frag} {mg : Str → Option Value} {base : Heap}
theorem scIsBlock : FnScope ["value"] ["value"] (defScope sIsBlock) := ⟨rfl, rfl, rfl, by decide +kernel, rfl, by decide +kernel, by decide +kernel⟩
theorem ok_isBlock {f : Addr} {fd : FuncData} (F : Fun K "is_block" "is_block" sIsBlock f fd) (T : TxtP mg) : FnOk P w K mg base CX0 1 f fd ["value"] spIsBlock := by
  refine F.ok scIsBlock (fun vs H Q E h => ?_) (fun cdv A outer s H vs Q E hr h => ?_)
  · obtain ⟨p, rfl, _⟩ := h
    rfl
  · obtain ⟨p, rfl, h⟩ := h
    obtain ⟨t, ml⟩ := T.longest
    refine ⟨_, pss_one (ps_ret (pe_and (pe_isi (pv 0) mono_var T.isi T.tuple bb_tuple) (pe_one (pe_cmpR op_le (pe_callB call_len_seq (by rfl) T.len boot_len (pa_cons (pv 0) pa_nil)) (pe_glob (v := .int 12) (by rfl) ml ⟨t, rfl⟩) (nomark _))))), ?_⟩
    rcases h with ⟨xs, hp, hl, q⟩ | ⟨xs, hp, q⟩
    · refine ⟨_, rfl, _, _, .base (.tup hp), kitYes (by decide +kernel), _, rfl, iteT ⟨_, rfl, p, xs, rfl, .inr (SqT.of hp), _, _, rfl, rfl, ?_⟩⟩
      show Q (.bl (decide ((xs.length : Int) ≤ 12))) H
      rw [show decide ((xs.length : Int) ≤ 12) = true from decide_eq_true (by omega)]
      exact q
    · exact ⟨_, rfl, _, _, .base (.lst hp), kitNo (by decide +kernel), _, rfl, iteF q⟩
def spHeadOf : Sp := fun vs H Q _ => ∃ S, vs = [.ref S] ∧ HomeS H S ∧ Q (.str "home") H
theorem scHeadOf : FnScope ["value"] ["value"] (defScope sHeadOf) := ⟨rfl, rfl, rfl, by decide +kernel, rfl, by decide +kernel, by decide +kernel⟩
theorem ok_headOf {f : Addr} {fd : FuncData} (F : Fun K "head_of" "head_of" sHeadOf f fd) (T : TxtP mg) : FnOk P w K mg base CX0 1 f fd ["value"] spHeadOf := by
  refine F.ok scHeadOf (fun vs H Q E h => ?_) (fun cdv A outer s H vs Q E hr h => ?_)
  · obtain ⟨p, rfl, _⟩ := h
    rfl
  · obtain ⟨S, rfl, hS, k⟩ := h
    have hS : H S = some (.tup [.str "home"]) := hS
    refine ⟨_, pss_cons (ps_if (pw_and (pt_val (pe_isi (pv 0) mono_var T.isi T.tuple bb_tuple)) (pw_and (pt_cmpR op_gt (pe_callB call_len_seq (by rfl) T.len boot_len (pa_cons (pv 0) pa_nil)) pe_int (nomark _))
        (pw_and1 (pt_val (pe_isi (pe_ix ix_tup (pv 0) pe_int (fun _ _ => rfl)) (fun σ H Q Q' wk ⟨v, e, p, xs, i, y, a, b, c, d, q⟩ => ⟨v, e, p, xs, i, y, a, b, c, d, wk _ _ q⟩) T.isi T.str bb_str))))).pt (pss_one (ps_ret (pe_ix ix_tup (pv 0) pe_int (fun _ _ => rfl)))) pss_nil)
      (pss_one (ps_ret pe_str)), ?_⟩
    refine ⟨_, rfl, _, _, .base (.tup hS), kitYes (by decide +kernel), _, rfl, iteT ?_⟩
    refine ⟨_, rfl, S, _, rfl, .inr (SqT.of hS), _, _, rfl, rfl, _, rfl, ite2 (fun _ => ?_) (fun z => absurd (by decide) z)⟩
    refine ⟨_, rfl, S, _, _, _, rfl, rfl, SqT.of hS, rfl, _, _, .base (.str _), kitYes (by decide +kernel), _, rfl, iteT ?_⟩
    exact ⟨_, rfl, S, _, _, _, rfl, rfl, SqT.of hS, rfl, k⟩
def spTrueS : Sp := fun vs H Q _ => ∃ S, vs = [.ref S] ∧ HomeS H S ∧ Q (.bl true) H
theorem scIsWord : FnScope ["value"] ["value"] (defScope sIsWord) := ⟨rfl, rfl, rfl, by decide +kernel, rfl, by decide +kernel, by decide +kernel⟩
theorem ok_isWord {f : Addr} {fd : FuncData} (F : Fun K "_is_word" "_is_word" sIsWord f fd) (T : TxtP mg) : FnOk P w K mg base CX0 1 f fd ["value"] spTrueS := by
  refine F.ok scIsWord (fun vs H Q E h => ?_) (fun cdv A outer s H vs Q E hr h => ?_)
  · obtain ⟨p, rfl, _⟩ := h
    rfl
  · obtain ⟨S, rfl, hS, k⟩ := h
    refine ⟨_, pss_one (ps_ret (pe_cmpR op_eq (pe_callB call_len_seq (by rfl) T.len boot_len (pa_cons (pv 0) pa_nil)) pe_int (nomark _))), ?_⟩
    exact ⟨_, rfl, S, _, rfl, .inr (SqT.of hS), rfl, k⟩
theorem scIsStatement : FnScope ["value", "head", "check"] ["value"] (defScope sIsStatement) := ⟨rfl, rfl, rfl, by decide +kernel, rfl, by decide +kernel, by decide +kernel⟩
theorem ok_isStatement {f fH fW ck : Addr} {fd fdH fdW : FuncData} (F : Fun K "is_statement" "is_statement" sIsStatement f fd) (T : TxtP mg) (FH : Fun K "head_of" "head_of" sHeadOf fH fdH) (bH : Binds K fdH ["value"] []) (mH : mg "head_of" = some (.ref fH))
    (FW : Fun K "_is_word" "_is_word" sIsWord fW fdW) (bW : Binds K fdW ["value"] []) (mC : mg "CHECKS" = some (.ref ck)) (kd : KDct K w ck "home" (.ref fW)) (lo : (ck == sysModules) = false) : FnOk P w K mg base CX0 2 f fd ["value"] spTrueS := by
  have GH : FnOk P w K mg base CX0 1 fH fdH ["value"] spHeadOf := ok_headOf FH T
  have GW : FnOk P w K mg base CX0 1 fW fdW ["value"] spTrueS := ok_isWord FW T
  refine F.ok scIsStatement (fun vs H Q E h => ?_) (fun cdv A outer s H vs Q E hr h => ?_)
  · obtain ⟨p, rfl, _⟩ := h
    rfl
  · obtain ⟨S, rfl, hS, k⟩ := h
    refine ⟨_, pss_cons (ps_set (i := 1) scIsStatement.nd rfl (Or.inl rfl) (pe_call GH hr (by rfl) mH FH.kp bH .nil pass0 (pa_cons (pv 0) pa_nil)))
      (pss_cons (ps_if (pt_cmpR op_kdNotIn (pv 1) (pe_glob (v := .ref ck) (by rfl) mC rfl) (by rfl)) (pss_one (ps_ret pe_bl)) pss_nil)
      (pss_cons (ps_set (i := 2) scIsStatement.nd rfl (Or.inl rfl) (pe_ix ix_kdict (pe_glob (v := .ref ck) (by rfl) mC rfl) (pv 1) (fun _ _ => rfl)))
      (pss_one (ps_ret (pe_callL (i := 2) GW hr rfl (Or.inl rfl) FW.kp bW .nil pass0 (pa_cons (pv 0) pa_nil)))))), ?_⟩
    refine ⟨_, rfl, S, rfl, hS, ?_⟩
    refine ⟨_, rfl, ck, _, rfl, rfl, .inl ⟨_, kd, lo, _, rfl, iteF ?_⟩⟩
    refine ⟨_, rfl, ck, _, _, rfl, rfl, kd, ?_⟩
    exact ⟨rfl, _, rfl, S, rfl, hS, k⟩
def spBlocksOf : Sp := fun vs H Q _ => ∃ S, vs = [.ref S] ∧ HomeS H S ∧ ∀ p H', Same H H' → H p = none → H' p = some (.lst []) → Q (.ref p) H'
theorem scBlocksOf : FnScope ["statement", "head", "row"] ["statement"] (defScope sBlocksOf) := ⟨rfl, rfl, rfl, by decide +kernel, rfl, by decide +kernel, by decide +kernel⟩
theorem ok_blocksOf {f : Addr} {fd : FuncData} (F : Fun K "blocks_of" "blocks_of" sBlocksOf f fd) (T : TxtP mg) : FnOk P w K mg base CX0 1 f fd ["statement"] spBlocksOf := by
  refine F.ok scBlocksOf (fun vs H Q E h => ?_) (fun cdv A outer s H vs Q E hr h => ?_)
  · obtain ⟨p, rfl, _⟩ := h
    rfl
  · obtain ⟨S, rfl, hS, k⟩ := h
    refine ⟨_, pss_cons (ps_set (i := 1) scBlocksOf.nd rfl (Or.inl rfl) (pe_ix ix_tup (pv 0) pe_int (fun _ _ => rfl)))
      (pss_cons (ps_if (pt_cmpR op_eq (pv 1) pe_str (nomark _)) pss_never pss_nil)
      (pss_cons (ps_if (pt_cmpR op_eq (pv 1) pe_str (nomark _)) pss_never pss_nil)
      (pss_cons (ps_if (pt_cmpR op_eq (pv 1) pe_str (nomark _)) pss_never pss_nil)
      (pss_cons (ps_if (pt_cmpR op_eq (pv 1) pe_str (nomark _)) pss_never pss_nil)
      (pss_one (ps_ret (pe_lst pa_nil))))))), ?_⟩
    refine ⟨_, rfl, S, _, _, _, rfl, rfl, SqT.of hS, rfl, ?_⟩
    refine ⟨_, rfl, rfl, _, rfl, ite2 (fun z => absurd z (by decide)) fun _ => ?_⟩
    refine ⟨_, rfl, rfl, _, rfl, ite2 (fun z => absurd z (by decide)) fun _ => ?_⟩
    refine ⟨_, rfl, rfl, _, rfl, ite2 (fun z => absurd z (by decide)) fun _ => ?_⟩
    refine ⟨_, rfl, rfl, _, rfl, ite2 (fun z => absurd z (by decide)) fun _ => ?_⟩
    exact ⟨by decide, fun p np => k p _ (Same.new np) np upd_same⟩
def spSound (n : Nat) (b : Bool) : Sp := fun vs H Q _ => ∃ S, vs = [.ref S, .int 1] ++ (if n = 3 then [.bl false] else []) ∧ HomeS H S ∧ ∀ H', Same H H' → Q (.bl b) H'
theorem scIsSound : FnScope ["item", "depth"] ["item", "depth"] (defScope sIsSound) := ⟨rfl, rfl, rfl, by decide +kernel, rfl, by decide +kernel, by decide +kernel⟩
theorem ok_isSound {f fS : Addr} {fd fdS : FuncData} (F : Fun K "_is_sound" "_is_sound" sIsSound f fd) (T : TxtP mg) (GS : FnOk P w K mg base CX0 2 fS fdS ["value"] spTrueS) (kS : PySem.W.keepIn K (.ref fS) = true) (bS : Binds K fdS ["value"] []) (mS : mg "is_statement" = some (.ref fS)) :
    FnOk P w K mg base CX0 3 f fd ["item", "depth"] (spSound 2 true) := by
  refine F.ok scIsSound (fun vs H Q E h => ?_) (fun cdv A outer s H vs Q E hr h => ?_)
  · obtain ⟨p, rfl, _⟩ := h
    rfl
  · obtain ⟨S, rfl, hS, k⟩ := h
    obtain ⟨t, md⟩ := T.deepest
    refine ⟨_, pss_one (ps_ret (pe_and (pe_call GS hr (by rfl) mS kS bS .nil pass0 (pa_cons (pv 0) pa_nil)) (pe_one (pe_or (pe_cmpR op_lt (pv 1) (pe_glob (v := .int 12) (by rfl) md ⟨t, rfl⟩) (nomark _)) (pe_one pe_never))))), ?_⟩
    refine ⟨_, rfl, S, rfl, hS, _, rfl, iteT ⟨_, rfl, _, _, rfl, rfl, _, rfl, iteT ?_⟩⟩
    exact k H (Same.refl H)
theorem scIsWrong : FnScope ["item", "depth", "in_repeat"] ["item", "depth", "in_repeat"] (defScope sIsWrong) := ⟨rfl, rfl, rfl, by decide +kernel, rfl, by decide +kernel, by decide +kernel⟩
theorem ok_isWrong {f fS : Addr} {fd fdS : FuncData} (F : Fun K "_is_wrong" "_is_wrong" sIsWrong f fd) (T : TxtP mg) (GS : FnOk P w K mg base CX0 3 fS fdS ["item", "depth"] (spSound 2 true)) (kS : PySem.W.keepIn K (.ref fS) = true) (bS : Binds K fdS ["item", "depth"] []) (mS : mg "_is_sound" = some (.ref fS)) :
    FnOk P w K mg base CX0 4 f fd ["item", "depth", "in_repeat"] (spSound 3 false) := by
  refine F.ok scIsWrong (fun vs H Q E h => ?_) (fun cdv A outer s H vs Q E hr h => ?_)
  · obtain ⟨p, rfl, _⟩ := h
    rfl
  · obtain ⟨S, rfl, hS, k⟩ := h
    refine ⟨_, pss_cons (ps_if (pt_not (pt_val (pe_call GS hr (by rfl) mS kS bS .nil pass0 (pa_cons (pv 0) (pa_cons (pv 1) pa_nil))))) (pss_one (ps_ret pe_bl)) pss_nil)
      (pss_cons (ps_if (pt_cmpR op_eq (pe_ix ix_tup (pv 0) pe_int (fun _ _ => rfl)) pe_str (nomark _)) pss_never pss_nil)
      (pss_one (ps_ret (pe_and (pe_cmpR op_eq (pe_ix ix_tup (pv 0) pe_int (fun _ _ => rfl)) pe_str (nomark _)) (pe_one pe_never))))), ?_⟩
    refine ⟨_, rfl, _, rfl, S, rfl, hS, fun H1 s1 => ⟨_, rfl, iteF ?_⟩⟩
    have h1 : H1 S = some (.tup [.str "home"]) := s1 _ _ hS
    refine ⟨_, rfl, S, _, _, _, rfl, rfl, SqT.of h1, rfl, rfl, _, rfl, ite2 (fun z => absurd z (by decide)) fun _ => ?_⟩
    refine ⟨_, rfl, S, _, _, _, rfl, rfl, SqT.of h1, rfl, rfl, _, rfl, ite2 (fun z => absurd z (by decide)) fun _ => ?_⟩
    exact k H1 s1
end
end Oh
/-! The checks of forms at any value: a tree of what the program looks at. -/
namespace Oh
open PySem PySem.Spec PyProof.Rows L2
abbrev sIsInteger : Stmt := top 10
abbrev sIsDigit : Stmt := top 11
abbrev sIsName : Stmt := top 12
abbrev sIsExpr : Stmt := top 16
abbrev sSetTell : Stmt := top 18
abbrev sIsHear : Stmt := top 19
abbrev sIsWait : Stmt := top 20
abbrev sIsRow : Stmt := top 21
abbrev sIsOpen : Stmt := top 22
abbrev sIsChoice : Stmt := top 23
abbrev sIsIf : Stmt := top 24
abbrev sIsRepeat : Stmt := top 25
/-- a value as the program sees it; oth: a list, a dict, an object -/
inductive DT where
  | non
  | bl (b : Bool)
  | int (i : Int)
  | str (s : Str)
  | tup (l : List DT)
  | oth
/-- an own class whose objects are none of these kinds -/
structure OthC (K : PySem.W.Frag) (C : Addr) : Prop where
  cl : Cls K C
  ha : PySem.W.findIn K (.ref C) "__class__" = some (some (.builtin "object.__class__"))
  hn : PySem.W.specialIn K (.builtin "object.__class__") "__get__" = some (some (.builtin "getset_descriptor.__get__"))
  ht : PySem.W.takesIn K (.builtin "object.__class__") = some true
  hm : PySem.W.mroIn K C (.type "object") = some true
  ki : PySem.W.kitOne K (.ref C) (.type "int") = some false
  kb : PySem.W.kitOne K (.ref C) (.type "bool") = some false
  ks : PySem.W.kitOne K (.ref C) (.type "str") = some false
  kt : PySem.W.kitOne K (.ref C) (.type "tuple") = some false
mutual
inductive Rp (K : PySem.W.Frag) (H : Hp) : V → DT → Prop
  | non : Rp K H .non .non
  | bl (b : Bool) : Rp K H (.bl b) (.bl b)
  | int (i : Int) : Rp K H (.int i) (.int i)
  | str {s : Str} : s.length ≤ 1000 → Rp K H (.str s) (.str s)
  | tup {p : Addr} {xs : List V} {l : List DT} : H p = some (.tup xs) → RpAll K H xs l → Rp K H (.ref p) (.tup l)
  | lst {p : Addr} {xs : List V} : H p = some (.lst xs) → Rp K H (.ref p) .oth
  | dct {p : Addr} {kvs : List (L2.Key × V)} : H p = some (.dK kvs) → Rp K H (.ref p) .oth
  | ins {p C dx : Addr} {fs : List (Str × V)} : H p = some (.ins C dx fs) → OthC K C → Rp K H (.ref p) .oth
inductive RpAll (K : PySem.W.Frag) (H : Hp) : List V → List DT → Prop
  | nil : RpAll K H [] []
  | cons {v : V} {vs : List V} {d : DT} {ds : List DT} : Rp K H v d → RpAll K H vs ds → RpAll K H (v :: vs) (d :: ds)
end
mutual
theorem Rp.keep {K : PySem.W.Frag} {H H' : Hp} (s : Same H H') : ∀ {v : V} {d : DT}, Rp K H v d → Rp K H' v d
  | _, _, .non => .non
  | _, _, .bl b => .bl b
  | _, _, .int i => .int i
  | _, _, .str z => .str z
  | _, _, .tup e r => .tup (s _ _ e) (RpAll.keep s r)
  | _, _, .lst e => .lst (s _ _ e)
  | _, _, .dct e => .dct (s _ _ e)
  | _, _, .ins e c => .ins (s _ _ e) c
theorem RpAll.keep {K : PySem.W.Frag} {H H' : Hp} (s : Same H H') : ∀ {vs : List V} {ds : List DT}, RpAll K H vs ds → RpAll K H' vs ds
  | _, _, .nil => .nil
  | _, _, .cons h t => .cons (Rp.keep s h) (RpAll.keep s t)
end
theorem RpAll.len {K : PySem.W.Frag} {H : Hp} : ∀ {vs : List V} {ds : List DT}, RpAll K H vs ds → vs.length = ds.length
  | _, _, .nil => rfl
  | _, _, .cons _ t => congrArg Nat.succ t.len
theorem RpAll.get {K : PySem.W.Frag} {H : Hp} : ∀ {vs : List V} {ds : List DT} {i : Nat} {d : DT}, RpAll K H vs ds → ds[i]? = some d → ∃ v, vs[i]? = some v ∧ Rp K H v d
  | _, _, i, d, .nil, h => by simp at h
  | _, _, 0, d, .cons (v := v) h1 _, h => by
    obtain rfl := Option.some.inj h
    exact ⟨v, rfl, h1⟩
  | _, _, i + 1, d, .cons _ t, h => RpAll.get (i := i) t h
def isB (d : DT) (T : String) : Bool := match d with
  | .bl _ => T == "bool" || T == "int"
  | .int _ => T == "int"
  | .str _ => T == "str"
  | .tup _ => T == "tuple"
  | _ => false
/-- isinstance of such a value, one of four built-in classes -/
theorem isi_of {K : PySem.W.Frag} {H : Hp} {v : V} {d : DT} (r : Rp K H v d) {T : String} (hT : T = "int" ∨ T = "bool" ∨ T = "str" ∨ T = "tuple") : ∃ t, TyX K H v t ∧ PySem.W.kitOne K t (.type T) = some (isB d T) := by
  cases r with
  | non => exact ⟨_, .base .non, by rcases hT with rfl | rfl | rfl | rfl <;> exact kit_ty (by kernel_rfl)⟩
  | bl b => exact ⟨_, .base (.bl b), by rcases hT with rfl | rfl | rfl | rfl <;> exact kit_ty (by kernel_rfl)⟩
  | int i => exact ⟨_, .base (.int i), by rcases hT with rfl | rfl | rfl | rfl <;> exact kit_ty (by kernel_rfl)⟩
  | @str z _ => exact ⟨_, .base (.str z), by rcases hT with rfl | rfl | rfl | rfl <;> exact kit_ty (by kernel_rfl)⟩
  | tup e _ => exact ⟨_, .base (.tup e), by rcases hT with rfl | rfl | rfl | rfl <;> exact kit_ty (by kernel_rfl)⟩
  | lst e => exact ⟨_, .base (.lst e), by rcases hT with rfl | rfl | rfl | rfl <;> exact kit_ty (by kernel_rfl)⟩
  | dct e => exact ⟨_, .base (.dK e), by rcases hT with rfl | rfl | rfl | rfl <;> exact kit_ty (by kernel_rfl)⟩
  | ins e c =>
    refine ⟨_, .base (.ins e c.cl c.ha c.hn c.ht c.hm), ?_⟩
    rcases hT with rfl | rfl | rfl | rfl
    · exact c.ki
    · exact c.kb
    · exact c.ks
    · exact c.kt
/-! ### the mirrors -/
def intB (d : DT) : Bool := match d with
  | .int _ => true
  | _ => false
def digitB (d : DT) : Bool := match d with
  | .int i => decide (0 ≤ i) && decide (i ≤ 9)
  | _ => false
def keptV : List V := ([ "set", "tell", "hear", "wait", "on", "open", "or", "if", "else", "repeat", "leave", "home", "fail", "end", "plus", "minus", "same", "less", "not", "routine", "own", "over"] : List Str).map V.str
def signB (c : Nat) : Bool := !decide ([c] < [97]) && !decide ([122] < [c])
def nameB (d : DT) : Bool := match d with
  | .str s => decide (1 ≤ s.length) && decide (s.length ≤ 8) && (!inV (.str s) keptV && (s.cps.toList.map signB).all id)
  | _ => false
def headB (d : DT) : Str := match d with
  | .tup (.str h :: _) => h
  | _ => ""
def blockB (d : DT) : Bool := match d with
  | .tup l => decide (l.length ≤ 12)
  | _ => false
def choiceB (d : DT) : Bool := match d with
  | .tup l => decide (1 ≤ l.length) && decide (l.length ≤ 4)
  | _ => false
/-- what a check promises: the answer, the heap as it was but for new things -/
def spB (K : PySem.W.Frag) (f : DT → Bool) : Sp := fun vs H Q _ => ∃ v d, vs = [v] ∧ Rp K H v d ∧ ∀ H', Same H H' → Q (.bl (f d)) H'
section
variable {P : Program} {w : World} {K : PySem.W.Frag} {mg : Str → Option Value} {base : Heap}
theorem scIsInteger : FnScope ["value"] ["value"] (defScope sIsInteger) := ⟨rfl, rfl, rfl, by decide +kernel, rfl, by decide +kernel, by decide +kernel⟩
theorem ok_isInteger {f : Addr} {fd : FuncData} (F : Fun K "is_integer" "is_integer" sIsInteger f fd) (T : TxtI mg) : FnOk P w K mg base CX0 1 f fd ["value"] (spB K intB) := by
  refine F.ok scIsInteger (fun vs H Q E h => ?_) (fun cdv A outer s H vs Q E hr h => ?_)
  · obtain ⟨v, d, rfl, _⟩ := h
    rfl
  · obtain ⟨v, d, rfl, r, k⟩ := h
    obtain ⟨t1, y1, z1⟩ := isi_of r (.inl rfl)
    obtain ⟨t2, y2, z2⟩ := isi_of r (.inr (.inl rfl))
    refine ⟨_, pss_one (ps_ret (pe_and (pe_isi (pv 0) mono_var T.isi T.int bb_int) (pe_one (pe_not (pe_isi (pv 0) mono_var T.isi T.bool bb_bool))))), ?_⟩
    refine ⟨_, rfl, t1, _, y1, z1, _, rfl, ?_⟩
    have k0 := k H (Same.refl H)
    cases d with
    | int i => exact iteT ⟨_, rfl, t2, _, y2, z2, _, rfl, k0⟩
    | bl b => exact iteT ⟨_, rfl, t2, _, y2, z2, _, rfl, k0⟩
    | non => exact iteF k0
    | str s => exact iteF k0
    | tup l => exact iteF k0
    | oth => exact iteF k0
theorem scIsDigit : FnScope ["value"] ["value"] (defScope sIsDigit) := ⟨rfl, rfl, rfl, by decide +kernel, rfl, by decide +kernel, by decide +kernel⟩
theorem ok_isDigit {f fI : Addr} {fd fdI : FuncData} (F : Fun K "is_digit" "is_digit" sIsDigit f fd) (GI : FnOk P w K mg base CX0 1 fI fdI ["value"] (spB K intB)) (kI : PySem.W.keepIn K (.ref fI) = true) (bI : Binds K fdI ["value"] []) (mI : mg "is_integer" = some (.ref fI)) :
    FnOk P w K mg base CX0 2 f fd ["value"] (spB K digitB) := by
  refine F.ok scIsDigit (fun vs H Q E h => ?_) (fun cdv A outer s H vs Q E hr h => ?_)
  · obtain ⟨v, d, rfl, _⟩ := h
    rfl
  · obtain ⟨v, d, rfl, r, k⟩ := h
    refine ⟨_, pss_one (ps_ret (pe_and (pe_call GI hr (by rfl) mI kI bI .nil pass0 (pa_cons (pv 0) pa_nil)) (pe_one (pe_chain op_le op_le pe_int (pv 0) pe_int)))), ?_⟩
    refine ⟨_, rfl, v, d, rfl, r, fun H1 s1 => ⟨_, rfl, ?_⟩⟩
    have k0 := k H1 s1
    cases d with
    | int i =>
      cases r
      refine iteT ⟨_, rfl, _, _, rfl, rfl, _, rfl, ?_⟩
      show if decide (0 ≤ i) = true then _ else _
      by_cases c : 0 ≤ i
      · rw [if_pos (decide_eq_true c)]
        refine ⟨_, _, rfl, rfl, ?_⟩
        have e : digitB (.int i) = decide (i ≤ 9) := by show (decide (0 ≤ i) && decide (i ≤ 9)) = _; rw [decide_eq_true c]; rfl
        rw [e] at k0
        exact k0
      · rw [if_neg (by simpa using c)]
        have e : digitB (.int i) = false := by show (decide (0 ≤ i) && decide (i ≤ 9)) = _; rw [decide_eq_false c]; rfl
        rw [e] at k0
        exact k0
    | bl b => exact iteF k0
    | non => exact iteF k0
    | str s => exact iteF k0
    | tup l => exact iteF k0
    | oth => exact iteF k0
/-- what the top has written: the bounds, the kept words -/
structure TxtF (K : PySem.W.Frag) (mg : Str → Option Value) (kw : Addr) : Prop extends TxtI mg where
  all : mg "all" = none
  longest : ∃ t, mg "LONGEST_NAME" = some (.int 8 t)
  choices : ∃ t, mg "MOST_CHOICES" = some (.int 4 t)
  kept : mg "KEPT_WORDS" = some (.ref kw)
  keptK : ∃ (o : Obj) (its : Array Value) (n : Nat), K.lookup kw = some o ∧ o.cls = .type "tuple" ∧ o.data = .seq its n ∧ its.size ≤ sizeLine ∧ Vals keptV its.toList
theorem boot_allO : bootBuiltins "all" = some (.builtin "all") := by decide +kernel
variable {kw : Addr}
theorem scIsName : FnScope ["value", "sign"] ["value"] (defScope sIsName) := ⟨rfl, rfl, rfl, by decide +kernel, rfl, by decide +kernel, by decide +kernel⟩
theorem ok_isName {f : Addr} {fd : FuncData} (F : Fun K "is_name" "is_name" sIsName f fd) (T : TxtF K mg kw) : FnOk P w K mg base CX0 1 f fd ["value"] (spB K nameB) := by
  refine F.ok scIsName (fun vs H Q E h => ?_) (fun cdv A outer s H vs Q E hr h => ?_)
  · obtain ⟨v, d, rfl, _⟩ := h
    rfl
  · obtain ⟨v, d, rfl, r, k⟩ := h
    obtain ⟨t1, y1, z1⟩ := isi_of r (.inr (.inr (.inl rfl)))
    obtain ⟨t8, m8⟩ := T.longest
    refine ⟨_, pss_cons (ps_if (pw_or (pt_not (pt_val (pe_isi (pv 0) mono_var T.isi T.str bb_str))) (pw_or1 (pt_not (pt_chain op_le op_le pe_int (pe_callB call_len_str (by rfl) T.len boot_len (pa_cons (pv 0) pa_nil)) (pe_glob (v := .int 8) (by rfl) m8 ⟨t8, rfl⟩))))).pt (pss_one (ps_ret pe_bl)) pss_nil)
      (pss_one (ps_ret (pe_and (pe_cmpR op_notIn_seq (pv 0) (pe_glob (v := .ref kw) (by rfl) T.kept rfl) (by rfl)) (pe_one (pe_callB (cr_all rfl) (by rfl) T.all boot_allO (pa_cons
        (pe_lc (own := [("sign", 1)]) (g := gName 1) (tt := tYes) rfl scIsName.nd (pi_str (pv 0)) (blkOk_by (N := ["value", "sign"]) (sc := defScope sIsName) (by decide +kernel)) (fun _ _ _ _ _ => pg_name (i := 1) scIsName.nd rfl (Or.inl rfl)) (fun _ _ _ _ _ => pts_nil)
          (fun _ _ _ _ _ => pe_chain op_le_str op_le_str pe_str (pv 1) pe_str)) pa_nil)))))), ?_⟩
    have k0 := k H (Same.refl H)
    have no : isB d "str" = false → nameB d = false := fun z => by
      cases d <;> first | rfl | (cases z)
    refine ⟨_, rfl, t1, _, y1, z1, _, rfl, ?_⟩
    cases hb : isB d "str" with
    | false =>
      rw [no hb] at k0
      exact iteT k0
    | true =>
      refine iteF ?_
      cases r with
      | str hl =>
        rename_i z
        have hz : z.length ≤ sizeLine := Nat.le_of_lt (small1000 hl)
        refine ⟨_, rfl, z, rfl, hz, _, _, rfl, rfl, _, rfl, ?_⟩
        by_cases c1 : (1 : Int) ≤ z.length
        · rw [if_pos (decide_eq_true c1)]
          refine ⟨_, _, rfl, rfl, _, rfl, ?_⟩
          by_cases c2 : (z.length : Int) ≤ 8
          · rw [decide_eq_true c2]
            refine iteF ?_
            obtain ⟨o, its, n, h1, h2, h3, h4, h5⟩ := T.keptK
            refine ⟨_, rfl, kw, keptV, rfl, .inr (.inr ⟨o, its, n, h1, h2, h3, h4, h5⟩), rfl, (by decide +kernel), _, rfl, ?_⟩
            have e1 : decide (1 ≤ z.length) = true := decide_eq_true (by omega)
            have e2 : decide (z.length ≤ 8) = true := decide_eq_true (by omega)
            have e3 : nameB (.str z) = (!inV (.str z) keptV && (z.cps.toList.map signB).all id) := by
              show (decide (1 ≤ z.length) && decide (z.length ≤ 8) && _) = _
              rw [e1, e2]
              rfl
            show if (!inV (V.str z) keptV) = true then _ else _
            by_cases c3 : (!inV (V.str z) keptV) = true
            · rw [if_pos c3]
              rw [e3, c3, Bool.true_and] at k
              refine ⟨_, rfl, z, rfl, fun D nD => lc_it (walk_str (z := z)) (fun i H' => Same H H' ∧ H' D = some (.lst (((z.cps.toList.map signB).take i).map V.bl))) ⟨Same.new nD, upd_same⟩ (fun _ _ _ _ => trivial) ?_ ?_⟩
              · rintro i x H1 H2 hi ⟨s1, d1⟩ ⟨e, c, ec, ex⟩
                subst e
                subst ex
                have lc : (z.cps.toList.map signB)[i]? = some (signB c) := by
                  rw [List.getElem?_map, Array.getElem?_toList, ec]
                  rfl
                have fin : ∀ b, b = signB c → ∃ acc, H2 D = some (HO.lst acc) ∧ acc.length < sizeLine ∧ Same H (upd H2 D (.lst (acc ++ [V.bl b]))) ∧ upd H2 D (.lst (acc ++ [V.bl b])) D = some (.lst (((z.cps.toList.map signB).take (i + 1)).map V.bl)) := fun b eb => by
                  refine ⟨_, d1, ?_, fun q o e => ?_, ?_⟩
                  · rw [List.length_map, List.length_take]
                    have : i < z.length := hi
                    exact Nat.lt_of_le_of_lt (Nat.min_le_left _ _) (Nat.lt_of_lt_of_le this hz)
                  · rw [upd_ne (ne_of_none e nD)]
                    exact s1 _ _ e
                  · rw [upd_same, eb, List.take_add_one, lc]
                    simp
                refine ⟨rfl, _, rfl, _, _, rfl, rfl, _, rfl, ?_⟩
                show if (!decide ([c] < [97])) = true then _ else _
                by_cases c4 : (!decide ([c] < [97])) = true
                · rw [if_pos c4]
                  refine ⟨_, _, rfl, rfl, fin _ ?_⟩
                  show _ = (!decide ([c] < [97]) && _)
                  rw [c4]
                  rfl
                · rw [if_neg c4]
                  refine fin _ ?_
                  show _ = (!decide ([c] < [97]) && _)
                  rw [Bool.eq_false_iff.mpr c4]
                  rfl
              · rintro H1 ⟨s1, d1⟩
                refine ⟨D, z.cps.toList.map signB, rfl, SqL.of ?_, k H1 s1⟩
                rw [d1, List.take_of_length_le]
                rw [List.length_map]
                exact Nat.le_refl _
            · rw [if_neg c3]
              rw [e3, Bool.eq_false_iff.mpr c3, Bool.false_and] at k0
              exact k0
          · rw [decide_eq_false c2]
            have e2 : nameB (.str z) = false := by
              show (decide (1 ≤ z.length) && decide (z.length ≤ 8) && _) = _
              rw [decide_eq_false (show ¬ z.length ≤ 8 by omega), Bool.and_false, Bool.false_and]
            rw [e2] at k0
            exact iteT k0
        · rw [if_neg (by simpa using c1)]
          have e2 : nameB (.str z) = false := by
            show (decide (1 ≤ z.length) && decide (z.length ≤ 8) && _) = _
            rw [decide_eq_false (show ¬ 1 ≤ z.length by omega), Bool.false_and, Bool.false_and]
          rw [e2] at k0
          exact ⟨_, rfl, iteT k0⟩
      | _ => cases hb
end
end Oh
namespace Oh
open PySem PySem.Spec PyProof.Rows L2
def keyS (e : DictEntry) : Option Str := match e.key with
  | .str x _ => some x
  | _ => none
/-- a dict that the top has written, its keys texts: all of it -/
structure WD (K : PySem.W.Frag) (w : World) (a : Addr) (kvs : List (Str × V)) : Prop where
  ex : ∃ (es : Array DictEntry) (n : Nat), K.lookup a = some ⟨.type "dict", none, .dict es n, #[]⟩ ∧ PySem.W.KeysLit w.params es.toList ∧ es.toList.map keyS = kvs.map fun q => some q.1
  lo : (a == sysModules) = false
  vals : ∀ q ∈ kvs, ∃ u, PySem.W.nsIn K a q.1 = some (some u) ∧ RelV q.2 u
theorem WD.at {K : PySem.W.Frag} {w : World} {a : Addr} {kvs : List (Str × V)} (d : WD K w a kvs) {k : Str} {v : V} (m : (k, v) ∈ kvs) : KDct K w a k v := by
  obtain ⟨es, n, l, kl, _⟩ := d.ex
  obtain ⟨u, e, r⟩ := d.vals _ m
  exact ⟨es, n, u, l, kl, e, r⟩
theorem WD.miss {K : PySem.W.Frag} {w : World} {a : Addr} {kvs : List (Str × V)} (d : WD K w a kvs) {z : Str} (m : z ∉ kvs.map (·.1)) : KMiss K w a z := by
  obtain ⟨es, n, l, kl, hk⟩ := d.ex
  refine ⟨es, n, l, kl, d.lo, ?_⟩
  have key : ∀ e ∈ es.toList, ∃ x t, e.key = .str x t ∧ x ≠ z := fun e me => by
    obtain ⟨x, t, ek, _⟩ := PySem.W.KeysLit.all kl e me
    refine ⟨x, t, ek, fun z' => m ?_⟩
    have q : keyS e ∈ es.toList.map keyS := List.mem_map_of_mem me
    rw [hk] at q
    obtain ⟨p, mp, ep⟩ := List.mem_map.mp q
    unfold keyS at ep
    rw [ek] at ep
    have : p.1 = x := Option.some.inj ep
    exact List.mem_map.mpr ⟨p, mp, this.trans z'⟩
  have f1 : es.toList.find? (fun e => e.key.isStr z) = none := List.find?_eq_none.mpr fun e me => by
    obtain ⟨x, t, ek, ne⟩ := key e me
    rw [ek]
    show ¬ (x == z) = true
    simpa using ne
  have f2 : es.toList.any (fun e => e.refKey) = false := List.any_eq_false.mpr fun e me => by
    obtain ⟨x, t, ek, _⟩ := key e me
    unfold DictEntry.refKey
    rw [ek]
    simp
  unfold PySem.W.nsIn
  rw [l]
  show (match es.toList.find? (fun e => e.key.isStr z) with | some e => some (some e.val) | none => if es.toList.any (fun e => e.refKey) then none else some none) = _
  rw [f1, f2]
  rfl
end Oh
namespace Oh
open PySem PySem.Spec PyProof.Rows L2
def argB (d : DT) (i : Nat) : DT := match d with
  | .tup l => l.getD i .non
  | _ => .non
def lenB (d : DT) : Nat := match d with
  | .tup l => l.length
  | _ => 0
def tailB (d : DT) : List DT := match d with
  | .tup l => l.drop 1
  | _ => []
def partsK : List (Str × V) := [("plus", .int 2), ("minus", .int 2), ("same", .int 2), ("less", .int 2), ("not", .int 1)]
def partsB (h : Str) : Option Nat := if h = "plus" ∨ h = "minus" ∨ h = "same" ∨ h = "less" then some 2 else if h = "not" then some 1 else none
/-- n + 1 levels deep at most -/
def exprB : Nat → DT → Bool
  | 0, d => digitB d || (headB d == "name" && (lenB d == 2 && nameB (argB d 1)))
  | n + 1, d => digitB d || (if headB d == "name" then lenB d == 2 && nameB (argB d 1) else match partsB (headB d) with
    | none => false
    | some p => lenB d == 1 + p && ((tailB d).map (exprB n)).all id)
def spHd (K : PySem.W.Frag) : Sp := fun vs H Q _ => ∃ v d, vs = [v] ∧ Rp K H v d ∧ Q (.str (headB d)) H
section
variable {P : Program} {w : World} {K : PySem.W.Frag} {mg : Str → Option Value} {base : Heap} {kw pk : Addr}
theorem Rp.tup_inv {H : Hp} {v : V} {l : List DT} (r : Rp K H v (.tup l)) : ∃ p xs, v = .ref p ∧ H p = some (.tup xs) ∧ RpAll K H xs l := by
  cases r with
  | tup e a => exact ⟨_, _, rfl, e, a⟩
theorem isTup {d : DT} (h : isB d "tuple" = true) : ∃ l, d = .tup l := by
  cases d <;> first | exact ⟨_, rfl⟩ | cases h
theorem noTup {d : DT} (h : isB d "tuple" = false) : headB d = "" ∧ blockB d = false ∧ choiceB d = false := by
  cases d <;> first | exact ⟨rfl, rfl, rfl⟩ | cases h
theorem ok_headOfD {f : Addr} {fd : FuncData} (F : Fun K "head_of" "head_of" sHeadOf f fd) (T : TxtI mg) : FnOk P w K mg base CX0 1 f fd ["value"] (spHd K) := by
  refine F.ok scHeadOf (fun vs H Q E h => ?_) (fun cdv A outer s H vs Q E hr h => ?_)
  · obtain ⟨v, d, rfl, _⟩ := h
    rfl
  · obtain ⟨v, d, rfl, r, k⟩ := h
    obtain ⟨t1, y1, z1⟩ := isi_of r (.inr (.inr (.inr rfl)))
    refine ⟨_, pss_cons (ps_if (pw_and (pt_val (pe_isi (pv 0) mono_var T.isi T.tuple bb_tuple)) (pw_and (pt_cmpR op_gt (pe_callB call_len_seq (by rfl) T.len boot_len (pa_cons (pv 0) pa_nil)) pe_int (nomark _))
        (pw_and1 (pt_val (pe_isi (pe_ix ix_tup (pv 0) pe_int (fun _ _ => rfl)) (fun σ H Q Q' wk ⟨v, e, p, xs, i, y, a, b, c, d, q⟩ => ⟨v, e, p, xs, i, y, a, b, c, d, wk _ _ q⟩) T.isi T.str bb_str))))).pt (pss_one (ps_ret (pe_ix ix_tup (pv 0) pe_int (fun _ _ => rfl)))) pss_nil)
      (pss_one (ps_ret pe_str)), ?_⟩
    refine ⟨_, rfl, t1, _, y1, z1, _, rfl, ?_⟩
    cases hb : isB d "tuple" with
    | false =>
      rw [(noTup hb).1] at k
      exact iteF k
    | true =>
      refine iteT ?_
      obtain ⟨l, rfl⟩ := isTup hb
      obtain ⟨p, xs, rfl, hp, ra⟩ := r.tup_inv
      refine ⟨_, rfl, p, xs, rfl, .inr (SqT.of hp), _, _, rfl, rfl, _, rfl, ?_⟩
      cases ra with
      | nil => exact ite2 (fun z => absurd z (by decide)) fun _ => k
      | @cons v0 vs0 d0 ds0 r0 ra =>
        refine ite2 (fun _ => ?_) (fun z => absurd (decide_eq_true (show (0 : Int) < ((v0 :: vs0).length : Nat) by rw [List.length_cons]; omega)) z)
        obtain ⟨t2, y2, z2⟩ := isi_of r0 (.inr (.inr (.inl rfl)))
        refine ⟨_, rfl, p, _, _, _, rfl, rfl, SqT.of hp, at_of (j := 0) rfl rfl, t2, _, y2, z2, _, rfl, ?_⟩
        cases r0 with
        | str hl => exact iteT ⟨_, rfl, p, _, _, _, rfl, rfl, SqT.of hp, at_of (j := 0) rfl rfl, k⟩
        | non => exact iteF k
        | bl b => exact iteF k
        | int i => exact iteF k
        | tup _ _ => exact iteF k
        | lst _ => exact iteF k
        | dct _ => exact iteF k
        | ins _ _ => exact iteF k
theorem ok_isBlockD {f : Addr} {fd : FuncData} (F : Fun K "is_block" "is_block" sIsBlock f fd) (T : TxtP mg) : FnOk P w K mg base CX0 1 f fd ["value"] (spB K blockB) := by
  refine F.ok scIsBlock (fun vs H Q E h => ?_) (fun cdv A outer s H vs Q E hr h => ?_)
  · obtain ⟨v, d, rfl, _⟩ := h
    rfl
  · obtain ⟨v, d, rfl, r, k⟩ := h
    have k0 := k H (Same.refl H)
    obtain ⟨t1, y1, z1⟩ := isi_of r (.inr (.inr (.inr rfl)))
    obtain ⟨t, ml⟩ := T.longest
    refine ⟨_, pss_one (ps_ret (pe_and (pe_isi (pv 0) mono_var T.isi T.tuple bb_tuple) (pe_one (pe_cmpR op_le (pe_callB call_len_seq (by rfl) T.len boot_len (pa_cons (pv 0) pa_nil)) (pe_glob (v := .int 12) (by rfl) ml ⟨t, rfl⟩) (nomark _))))), ?_⟩
    refine ⟨_, rfl, t1, _, y1, z1, _, rfl, ?_⟩
    cases hb : isB d "tuple" with
    | false =>
      rw [(noTup hb).2.1] at k0
      exact iteF k0
    | true =>
      refine iteT ?_
      obtain ⟨l, rfl⟩ := isTup hb
      obtain ⟨p, xs, rfl, hp, ra⟩ := r.tup_inv
      refine ⟨_, rfl, p, xs, rfl, .inr (SqT.of hp), _, _, rfl, rfl, ?_⟩
      show Q (.bl (decide ((xs.length : Int) ≤ 12))) H
      have e : decide ((xs.length : Int) ≤ 12) = blockB (.tup l) := by
        show _ = decide (l.length ≤ 12)
        rw [← ra.len]
        by_cases c : xs.length ≤ 12
        · rw [decide_eq_true c, decide_eq_true (by omega)]
        · rw [decide_eq_false c, decide_eq_false (by omega)]
      rw [e]
      exact k0
theorem scIsChoice : FnScope ["value"] ["value"] (defScope sIsChoice) := ⟨rfl, rfl, rfl, by decide +kernel, rfl, by decide +kernel, by decide +kernel⟩
theorem ok_isChoice {f : Addr} {fd : FuncData} (F : Fun K "_is_choice" "_is_choice" sIsChoice f fd) (T : TxtF K mg kw) : FnOk P w K mg base CX0 1 f fd ["value"] (spB K choiceB) := by
  refine F.ok scIsChoice (fun vs H Q E h => ?_) (fun cdv A outer s H vs Q E hr h => ?_)
  · obtain ⟨v, d, rfl, _⟩ := h
    rfl
  · obtain ⟨v, d, rfl, r, k⟩ := h
    have k0 := k H (Same.refl H)
    obtain ⟨t1, y1, z1⟩ := isi_of r (.inr (.inr (.inr rfl)))
    obtain ⟨t, ml⟩ := T.choices
    refine ⟨_, pss_one (ps_ret (pe_and (pe_isi (pv 0) mono_var T.isi T.tuple bb_tuple) (pe_one (pe_chain op_le op_le pe_int (pe_callB call_len_seq (by rfl) T.len boot_len (pa_cons (pv 0) pa_nil)) (pe_glob (v := .int 4) (by rfl) ml ⟨t, rfl⟩))))), ?_⟩
    refine ⟨_, rfl, t1, _, y1, z1, _, rfl, ?_⟩
    cases hb : isB d "tuple" with
    | false =>
      rw [(noTup hb).2.2] at k0
      exact iteF k0
    | true =>
      refine iteT ?_
      obtain ⟨l, rfl⟩ := isTup hb
      obtain ⟨p, xs, rfl, hp, ra⟩ := r.tup_inv
      refine ⟨_, rfl, p, xs, rfl, .inr (SqT.of hp), _, _, rfl, rfl, _, rfl, ?_⟩
      have hl := ra.len
      show if decide ((1 : Int) ≤ xs.length) = true then _ else _
      by_cases c : (1 : Int) ≤ xs.length
      · rw [if_pos (decide_eq_true c)]
        refine ⟨_, _, rfl, rfl, ?_⟩
        have e : choiceB (.tup l) = decide ((xs.length : Int) ≤ 4) := by
          show (decide (1 ≤ l.length) && decide (l.length ≤ 4)) = _
          rw [decide_eq_true (show 1 ≤ l.length by omega), Bool.true_and, ← hl]
          by_cases c2 : xs.length ≤ 4
          · rw [decide_eq_true c2, decide_eq_true (by omega)]
          · rw [decide_eq_false c2, decide_eq_false (by omega)]
        rw [e] at k0
        exact k0
      · rw [if_neg (by simpa using c)]
        have e : choiceB (.tup l) = false := by
          show (decide (1 ≤ l.length) && decide (l.length ≤ 4)) = _
          rw [decide_eq_false (show ¬ 1 ≤ l.length by omega), Bool.false_and]
        rw [e] at k0
        exact k0
end
end Oh
namespace Oh
open PySem PySem.Spec PyProof.Rows L2
def spExpr (K : PySem.W.Frag) (n : Nat) : Sp := fun vs H Q _ => ∃ v d, vs = [v, .int ((n : Int) + 1)] ∧ Rp K H v d ∧ ∀ H', Same H H' → Q (.bl (exprB n d)) H'
def spExprP (K : PySem.W.Frag) : Nat → Sp
  | 0 => fun _ _ _ _ => False
  | n + 1 => spExpr K n
section
variable {P : Program} {w : World} {K : PySem.W.Frag} {mg : Str → Option Value} {base : Heap} {kw pk : Addr}
abbrev nEx : List Str := ["value", "deepest", "head", "part"]
theorem scIsExpr : FnScope nEx ["value", "deepest"] (defScope sIsExpr) := ⟨rfl, rfl, rfl, by decide +kernel, rfl, by decide +kernel, by decide +kernel⟩
abbrev ExprF (K : PySem.W.Frag) (f : Addr) (fd : FuncData) : Prop := FunD K "is_expression" "is_expression" (defArgs sIsExpr) (defBody sIsExpr) (defScope sIsExpr) [V.int 5] [] f fd
theorem cut1 (v : V) (xs : List V) : cutV (v :: xs) (some 1) none = xs := by
  have e1 : HT.sIx (v :: xs).length 0 (some 1) = 1 := by
    have q := HT.sIx_nat (v :: xs).length 0 1
    have h : min 1 (v :: xs).length = 1 := by rw [List.length_cons]; omega
    rw [h] at q
    exact q
  have e2 : HT.sIx (v :: xs).length (v :: xs).length none = (v :: xs).length := HT.sIx_none _ _
  unfold cutV
  rw [e1, e2]
  simp
theorem cut1_no (v : V) (xs : List V) : ¬ (HT.sIx (v :: xs).length 0 (some 1) = 0 ∧ HT.sIx (v :: xs).length (v :: xs).length none = (v :: xs).length) := by
  rintro ⟨h, _⟩
  have q := HT.sIx_nat (v :: xs).length 0 1
  have h' : min 1 (v :: xs).length = 1 := by rw [List.length_cons]; omega
  rw [h'] at q
  exact absurd (q.symm.trans h) (by decide)
theorem head_inv {d : DT} (h : headB d ≠ "") : ∃ l, d = .tup (.str (headB d) :: l) := by
  cases d with
  | tup l =>
    cases l with
    | nil => exact absurd rfl h
    | cons x r =>
      cases x <;> first | exact ⟨r, rfl⟩ | exact absurd rfl h
  | _ => exact absurd rfl h
theorem expr_name {n : Nat} {d : DT} (h : headB d = "name") : exprB n d = (digitB d || (lenB d == 2 && nameB (argB d 1))) := by
  have e : (headB d == "name") = true := by rw [h]; exact beq_self_eq_true _
  cases n with
  | zero =>
    show (digitB d || ((headB d == "name") && _)) = _
    rw [e, Bool.true_and]
  | succ n =>
    show (digitB d || (if (headB d == "name") = true then _ else _)) = _
    rw [if_pos e]
theorem expr_zero {d : DT} (h : headB d ≠ "name") : exprB 0 d = digitB d := by
  show (digitB d || ((headB d == "name") && _)) = _
  rw [beq_eq_false_iff_ne.mpr h, Bool.false_and, Bool.or_false]
theorem expr_none {n : Nat} {d : DT} (h : headB d ≠ "name") (hp : partsB (headB d) = none) : exprB (n + 1) d = digitB d := by
  show (digitB d || (if (headB d == "name") = true then _ else match partsB (headB d) with | none => false | some p => _)) = _
  rw [if_neg (by simpa using h), hp, Bool.or_false]
theorem expr_some {n p : Nat} {d : DT} (h : headB d ≠ "name") (hp : partsB (headB d) = some p) : exprB (n + 1) d = (digitB d || (lenB d == 1 + p && ((tailB d).map (exprB n)).all id)) := by
  show (digitB d || (if (headB d == "name") = true then _ else match partsB (headB d) with | none => false | some p => _)) = _
  rw [if_neg (by simpa using h), hp]
theorem parts_none {h : Str} (e : partsB h = none) : h ∉ partsK.map (·.1) := by
  unfold partsB at e
  split at e
  · cases e
  · split at e
    · cases e
    · rename_i h1 h2
      intro m
      have m' : h = "plus" ∨ h = "minus" ∨ h = "same" ∨ h = "less" ∨ h = "not" := by simpa [partsK] using m
      rcases m' with z | z | z | z | z
      · exact h1 (.inl z)
      · exact h1 (.inr (.inl z))
      · exact h1 (.inr (.inr (.inl z)))
      · exact h1 (.inr (.inr (.inr z)))
      · exact h2 z
theorem parts_some {h : Str} {p : Nat} (e : partsB h = some p) : (h, V.int p) ∈ partsK ∧ h ≠ "" ∧ p ≤ 2 := by
  unfold partsB at e
  split at e
  · rename_i h1
    cases e
    rcases h1 with rfl | rfl | rfl | rfl
    · exact ⟨.head _, by decide, by decide⟩
    · exact ⟨.tail _ (.head _), by decide, by decide⟩
    · exact ⟨.tail _ (.tail _ (.head _)), by decide, by decide⟩
    · exact ⟨.tail _ (.tail _ (.tail _ (.head _))), by decide, by decide⟩
  · split at e
    · rename_i h2
      cases e
      subst h2
      exact ⟨.tail _ (.tail _ (.tail _ (.tail _ (.head _)))), by decide, by decide⟩
    · cases e
theorem expr_step {n : Nat} {f fD fH fN : Addr} {fd fdD fdH fdN : FuncData} (F : ExprF K f fd) (T : TxtF K mg kw)
    (GD : FnOk P w K mg base CX0 2 fD fdD ["value"] (spB K digitB)) (kD : PySem.W.keepIn K (.ref fD) = true) (bD : Binds K fdD ["value"] []) (mD : mg "is_digit" = some (.ref fD))
    (GH : FnOk P w K mg base CX0 1 fH fdH ["value"] (spHd K)) (kH : PySem.W.keepIn K (.ref fH) = true) (bH : Binds K fdH ["value"] []) (mH : mg "head_of" = some (.ref fH))
    (GN : FnOk P w K mg base CX0 1 fN fdN ["value"] (spB K nameB)) (kN : PySem.W.keepIn K (.ref fN) = true) (bN : Binds K fdN ["value"] []) (mN : mg "is_name" = some (.ref fN))
    (mP : mg "PARTS" = some (.ref pk)) (wp : WD K w pk partsK) (mE : mg "is_expression" = some (.ref f)) (bE : Binds K fd ["value", "deepest"] [])
    (GP : FnOk P w K mg base CX0 (n + 2) f fd ["value", "deepest"] (spExprP K n)) : FnOk P w K mg base CX0 (n + 3) f fd ["value", "deepest"] (spExpr K n) := by
  refine F.ok scIsExpr (fun vs H Q E h => ?_) (fun cdv A outer s H vs Q E hr h => ?_)
  · obtain ⟨v, d, rfl, _⟩ := h
    rfl
  · obtain ⟨v, d, rfl, r, k⟩ := h
    have hr1 : Room 1 _ := hr.mono (by omega)
    have hr2 : Room 2 _ := hr.mono (by omega)
    refine ⟨_, pss_cons (ps_if (pt_val (pe_call GD hr2 (by rfl) mD kD bD .nil pass0 (pa_cons (pv 0) pa_nil))) (pss_one (ps_ret pe_bl)) pss_nil)
      (pss_cons (ps_set (i := 2) scIsExpr.nd rfl (Or.inl rfl) (pe_call GH hr1 (by rfl) mH kH bH .nil pass0 (pa_cons (pv 0) pa_nil)))
      (pss_cons (ps_if (pt_cmpR op_eq (pv 2) pe_str (nomark _)) (pss_one (ps_ret (pe_and (pe_cmpR op_eq (pe_callB call_len_seq (by rfl) T.len boot_len (pa_cons (pv 0) pa_nil)) pe_int (nomark _)) (pe_one (pe_call GN hr1 (by rfl) mN kN bN .nil pass0 (pa_cons (pe_ix ix_tup (pv 0) pe_int (fun _ _ => rfl)) pa_nil)))))) pss_nil)
      (pss_cons (ps_if (pw_or (pt_cmpR op_eq (pv 1) pe_int (nomark _)) (pw_or (pt_cmpR op_kdNotIn (pv 2) (pe_glob (v := .ref pk) (by rfl) mP rfl) (by rfl))
          (pw_or1 (pt_cmpR op_ne (pe_callB call_len_seq (by rfl) T.len boot_len (pa_cons (pv 0) pa_nil)) (pe_op op_add pe_int (pe_ix ix_kdict (pe_glob (v := .ref pk) (by rfl) mP rfl) (pv 2) (fun _ _ => rfl))) (nomark _))))).pt (pss_one (ps_ret pe_bl)) pss_nil)
      (pss_one (ps_ret (pe_callB (cr_all rfl) (by rfl) T.all boot_allO (pa_cons
        (pe_lc (own := [("part", 3)]) (g := gName 3) (tt := tYes) rfl scIsExpr.nd (pi_tup (pe_slice sl_tup (pv 0) (po_some pe_int) po_none)) (blkOk_by (N := nEx) (sc := defScope sIsExpr) (by decide +kernel)) (fun _ _ _ _ _ => pg_name (i := 3) scIsExpr.nd rfl (Or.inl rfl)) (fun _ _ _ _ _ => pts_nil)
          (fun _ _ _ _ _ => pe_call GP hr (by rfl) mE F.kp bE .nil pass0 (pa_cons (pv 3) (pa_cons (pe_op op_sub (pv 1) pe_int) pa_nil)))) pa_nil))))))), ?_⟩
    refine ⟨_, rfl, v, d, rfl, r, fun H1 s1 => ⟨_, rfl, ?_⟩⟩
    cases hd : digitB d with
    | true =>
      have e : exprB n d = true := by cases n <;> (show (digitB d || _) = true; rw [hd]; rfl)
      have k1 := k H1 s1
      rw [e] at k1
      exact iteT k1
    | false =>
      refine iteF ?_
      have r1 := r.keep s1
      refine ⟨_, rfl, v, d, rfl, r1, ?_⟩
      refine ⟨_, rfl, rfl, _, rfl, ?_⟩
      by_cases hn : headB d = "name"
      · refine ite2 (fun _ => ?_) (fun z => absurd (decide_eq_true (by rw [hn])) z)
        rw [expr_name hn, hd, Bool.false_or] at k
        obtain ⟨l, el⟩ := head_inv (d := d) (by rw [hn]; decide)
        rw [el] at r1 k
        obtain ⟨p, xs, rfl, hp, ra⟩ := r1.tup_inv
        have hl := ra.len
        refine ⟨_, rfl, p, xs, rfl, .inr (SqT.of hp), rfl, _, rfl, ?_⟩
        have hlB : lenB (.tup (.str (headB d) :: l)) = xs.length := hl.symm
        by_cases c : xs.length = 2
        · refine ite2 (fun _ => ?_) (fun z => absurd (decide_eq_true (by rw [c]; rfl)) z)
          have hll : l.length = 1 := by have : xs.length = (DT.str (headB d) :: l).length := hl; rw [List.length_cons] at this; omega
          obtain ⟨d1, rfl⟩ : ∃ d1, l = [d1] := by
            match l, hll with
            | [d1], _ => exact ⟨d1, rfl⟩
          obtain ⟨v1, ev, rv⟩ := ra.get (i := 1) (d := d1) rfl
          refine ⟨_, rfl, p, _, _, _, rfl, rfl, SqT.of hp, at_of (j := 1) rfl ev, v1, d1, rfl, rv, fun H2 s2 => ?_⟩
          exact k H2 (s1.trans s2)
        · refine ite2 (fun z => absurd (V.int.inj (of_decide_eq_true z)) (by omega)) fun _ => ?_
          rw [hlB, beq_eq_false_iff_ne.mpr c, Bool.false_and] at k
          exact k H1 s1
      · refine ite2 (fun z => absurd (V.str.inj (of_decide_eq_true z)) hn) fun _ => ?_
        refine ⟨_, rfl, rfl, _, rfl, ?_⟩
        cases n with
        | zero =>
          rw [expr_zero hn, hd] at k
          exact ite2 (fun _ => k H1 s1) (fun z => absurd (decide_eq_true rfl) z)
        | succ n =>
          refine ite2 (fun z => absurd (V.int.inj (of_decide_eq_true z)) (by omega)) fun _ => ?_
          cases hp : partsB (headB d) with
          | none =>
            rw [expr_none hn hp, hd] at k
            refine ⟨_, rfl, pk, _, rfl, rfl, .inr ⟨wp.miss (parts_none hp), _, rfl, iteT ?_⟩⟩
            exact k H1 s1
          | some m =>
            rw [expr_some hn hp, hd, Bool.false_or] at k
            obtain ⟨mem, ne, m1⟩ := parts_some hp
            refine ⟨_, rfl, pk, _, rfl, rfl, .inl ⟨_, wp.at mem, wp.lo, _, rfl, iteF ?_⟩⟩
            obtain ⟨l, el⟩ := head_inv (d := d) ne
            rw [el] at r1 k
            obtain ⟨p, xs, rfl, hpp, ra⟩ := r1.tup_inv
            have hl := ra.len
            have hlB : lenB (.tup (.str (headB d) :: l)) = xs.length := hl.symm
            have wa : KDct K w pk (headB (.tup (.str (headB d) :: l))) (.int m) := wp.at mem
            refine ⟨_, rfl, p, xs, rfl, .inr (SqT.of hpp), _, rfl, pk, _, _, rfl, rfl, wp.at mem, _, _, rfl, rfl, rfl, _, rfl, ?_⟩
            show if (!decide (V.int xs.length = V.int (1 + (m : Int)))) = true then _ else _
            by_cases c : xs.length = 1 + m
            · rw [decide_eq_true (show V.int xs.length = V.int (1 + (m : Int)) by rw [c]; rfl)]
              refine iteF ?_
              rw [hlB, c, beq_self_eq_true, Bool.true_and] at k
              obtain ⟨vh, vs, rfl, ra'⟩ : ∃ vh vs, xs = vh :: vs ∧ RpAll K H1 vs l := by
                cases ra with
                | cons _ t => exact ⟨_, _, rfl, t⟩
              refine ⟨_, rfl, 1, rfl, p, _, rfl, SqT.of hpp, cut1_no _ _, fun q nq => ?_⟩
              rw [cut1]
              have sq : Same H1 (upd H1 q (.tup vs)) := Same.new nq
              refine ⟨q, rfl, ⟨_, SqT.of upd_same⟩, fun D nD => lc_it (walk_tup (xs := vs)) (fun i H' => Same (upd H1 q (.tup vs)) H' ∧ H' D = some (.lst (((l.map (exprB n)).take i).map V.bl))) ⟨Same.new nD, upd_same⟩ (fun i H' _ z => SqT.of (z.1 _ _ upd_same)) ?_ ?_⟩
              · rintro i x Ha Hb hi ⟨sa, da⟩ ⟨e, ex⟩
                subst e
                have li : i < l.length := by rw [← ra'.len]; exact hi
                obtain ⟨v1, ev, rv⟩ := ra'.get (i := i) (d := l[i]) (List.getElem?_eq_getElem li)
                obtain rfl := Option.some.inj (ev.symm.trans ex)
                have lc : (l.map (exprB n))[i]? = some (exprB n l[i]) := by rw [List.getElem?_map, List.getElem?_eq_getElem li]; rfl
                refine ⟨rfl, _, rfl, _, rfl, _, _, rfl, rfl, v1, l[i], ?_, rv.keep (sq.trans sa), fun Hc sc => ⟨_, sc _ _ da, ?_, fun b o e => ?_, ?_⟩⟩
                · show [v1, V.int (((n + 1 : Nat) : Int) + 1 - 1)] = [v1, V.int ((n : Int) + 1)]
                  congr 3
                  omega
                · rw [List.length_map, List.length_take, List.length_map]
                  have h3 : vs.length + 1 = 1 + m := c
                  have h4 := ra'.len
                  exact Nat.lt_of_le_of_lt (Nat.min_le_right _ _) (Nat.lt_of_le_of_lt (show l.length ≤ 2 by omega) (by decide))
                · rw [upd_ne (ne_of_none e nD)]
                  exact sc _ _ (sa _ _ e)
                · rw [upd_same, List.take_add_one, lc]
                  simp
              · rintro Hc ⟨sc, dc⟩
                refine ⟨D, l.map (exprB n), rfl, SqL.of ?_, ?_⟩
                · rw [dc, List.take_of_length_le]
                  rw [List.length_map, ra'.len]
                  exact Nat.le_refl _
                · exact k Hc (s1.trans (sq.trans sc))
            · rw [decide_eq_false (fun z => c (by have := V.int.inj z; omega))]
              rw [hlB, beq_eq_false_iff_ne.mpr c, Bool.false_and] at k
              exact iteT (k H1 s1)
end
end Oh
namespace Oh
open PySem PySem.Spec PyProof.Rows L2
def setTellB (d : DT) : Bool := lenB d == 3 && (nameB (argB d 1) && exprB 4 (argB d 2))
def hearB (d : DT) : Bool := lenB d == 3 && (nameB (argB d 1) && nameB (argB d 2))
def rowB (d : DT) : Bool := lenB d == 3 && (nameB (argB d 0) && (nameB (argB d 1) && blockB (argB d 2)))
def listB (d : DT) : List DT := match d with
  | .tup l => l
  | _ => []
def openB (d : DT) : Bool := lenB d == 2 && (choiceB (argB d 1) && ((listB (argB d 1)).map blockB).all id)
def ifB (d : DT) : Bool := lenB d == 4 && (exprB 4 (argB d 1) && (blockB (argB d 2) && blockB (argB d 3)))
def repeatB (d : DT) : Bool := lenB d == 2 && blockB (argB d 1)
def wordB (d : DT) : Bool := lenB d == 1
/-- what a check of a kind promises: of a tuple -/
def spT (K : PySem.W.Frag) (f : DT → Bool) : Sp := fun vs H Q _ => ∃ v l, vs = [v] ∧ Rp K H v (.tup l) ∧ ∀ H', Same H H' → Q (.bl (f (.tup l))) H'
theorem arg_at {K : PySem.W.Frag} {H : Hp} {xs : List V} {l : List DT} {i : Nat} (ra : RpAll K H xs l) (h : i < l.length) : ∃ v, xs[i]? = some v ∧ Rp K H v (argB (.tup l) i) := by
  obtain ⟨v, e, r⟩ := ra.get (i := i) (d := l[i]) (List.getElem?_eq_getElem h)
  refine ⟨v, e, ?_⟩
  show Rp K H v (l.getD i .non)
  rw [List.getD_eq_getElem?_getD, List.getElem?_eq_getElem h]
  exact r
/-- a law of and -/
theorem and_of {Q : Bool → Prop} {a b : Bool} (h : Q (a && b)) (h1 : a = true → Q b → Q (a && b)) : Q (a && b) := h
section
variable {P : Program} {w : World} {K : PySem.W.Frag} {mg : Str → Option Value} {base : Heap} {kw pk : Addr}
theorem ok_expr {f fD fH fN : Addr} {fd fdD fdH fdN : FuncData} (F : ExprF K f fd) (T : TxtF K mg kw)
    (GD : FnOk P w K mg base CX0 2 fD fdD ["value"] (spB K digitB)) (kD : PySem.W.keepIn K (.ref fD) = true) (bD : Binds K fdD ["value"] []) (mD : mg "is_digit" = some (.ref fD))
    (GH : FnOk P w K mg base CX0 1 fH fdH ["value"] (spHd K)) (kH : PySem.W.keepIn K (.ref fH) = true) (bH : Binds K fdH ["value"] []) (mH : mg "head_of" = some (.ref fH))
    (GN : FnOk P w K mg base CX0 1 fN fdN ["value"] (spB K nameB)) (kN : PySem.W.keepIn K (.ref fN) = true) (bN : Binds K fdN ["value"] []) (mN : mg "is_name" = some (.ref fN))
    (mP : mg "PARTS" = some (.ref pk)) (wp : WD K w pk partsK) (mE : mg "is_expression" = some (.ref f)) (bE : Binds K fd ["value", "deepest"] []) : ∀ n, FnOk P w K mg base CX0 (n + 3) f fd ["value", "deepest"] (spExpr K n)
  | 0 => expr_step F T GD kD bD mD GH kH bH mH GN kN bN mN mP wp mE bE never_ok
  | n + 1 => expr_step F T GD kD bD mD GH kH bH mH GN kN bN mN mP wp mE bE (ok_expr F T GD kD bD mD GH kH bH mH GN kN bN mN mP wp mE bE n)
theorem scSetTell : FnScope ["value"] ["value"] (defScope sSetTell) := ⟨rfl, rfl, rfl, by decide +kernel, rfl, by decide +kernel, by decide +kernel⟩
theorem ok_setTell {f fN fE : Addr} {fd fdN fdE : FuncData} {ds : List Value} (F : Fun K "_is_set_or_tell" "_is_set_or_tell" sSetTell f fd) (T : TxtF K mg kw)
    (GN : FnOk P w K mg base CX0 1 fN fdN ["value"] (spB K nameB)) (kN : PySem.W.keepIn K (.ref fN) = true) (bN : Binds K fdN ["value"] []) (mN : mg "is_name" = some (.ref fN))
    (GE : FnOk P w K mg base CX0 7 fE fdE ["value", "deepest"] (spExpr K 4)) (kE : PySem.W.keepIn K (.ref fE) = true) (vE : Vals [V.int 5] ds) (bE : Binds K fdE ["value", "deepest"] ds) (mE : mg "is_expression" = some (.ref fE)) :
    FnOk P w K mg base CX0 8 f fd ["value"] (spT K setTellB) := by
  refine F.ok scSetTell (fun vs H Q E h => ?_) (fun cdv A outer s H vs Q E hr h => ?_)
  · obtain ⟨v, l, rfl, _⟩ := h
    rfl
  · obtain ⟨v, l, rfl, r, k⟩ := h
    have hr1 : Room 1 _ := hr.mono (by decide)
    obtain ⟨p, xs, rfl, hp, ra⟩ := r.tup_inv
    have hl := ra.len
    refine ⟨_, pss_one (ps_ret (pe_and (pe_cmpR op_eq (pe_callB call_len_seq (by rfl) T.len boot_len (pa_cons (pv 0) pa_nil)) pe_int (nomark _)) (pe_and (pe_call GN hr1 (by rfl) mN kN bN .nil pass0 (pa_cons (pe_ix ix_tup (pv 0) pe_int (fun _ _ => rfl)) pa_nil))
      (pe_one (pe_call GE hr (by rfl) mE kE bE vE pass0 (pa_cons (pe_ix ix_tup (pv 0) pe_int (fun _ _ => rfl)) pa_nil)))))), ?_⟩
    refine ⟨_, rfl, p, xs, rfl, .inr (SqT.of hp), rfl, _, rfl, ?_⟩
    by_cases c : xs.length = 3
    · refine ite2 (fun _ => ?_) (fun z => absurd (decide_eq_true (by rw [c]; rfl)) z)
      have e1 : setTellB (.tup l) = (nameB (argB (.tup l) 1) && exprB 4 (argB (.tup l) 2)) := by
        show ((l.length == 3) && _) = _
        rw [← hl, c]
        rfl
      obtain ⟨v1, x1, r1⟩ := arg_at (i := 1) ra (by omega)
      obtain ⟨v2, x2, r2⟩ := arg_at (i := 2) ra (by omega)
      refine ⟨_, rfl, p, _, _, _, rfl, rfl, SqT.of hp, at_of (j := 1) rfl x1, v1, _, rfl, r1, fun H1 s1 => ⟨_, rfl, ?_⟩⟩
      rw [e1] at k
      cases hb : nameB (argB (.tup l) 1) with
      | false =>
        rw [hb] at k
        exact iteF (k H1 s1)
      | true =>
        rw [hb, Bool.true_and] at k
        exact iteT ⟨_, rfl, p, _, _, _, rfl, rfl, SqT.of (s1 _ _ hp), at_of (j := 2) rfl x2, v2, _, rfl, r2.keep s1, fun H2 s2 => k H2 (s1.trans s2)⟩
    · refine ite2 (fun z => absurd (V.int.inj (of_decide_eq_true z)) (by omega)) fun _ => ?_
      have e1 : setTellB (.tup l) = false := by
        show ((l.length == 3) && _) = _
        rw [← hl, beq_eq_false_iff_ne.mpr c, Bool.false_and]
      rw [e1] at k
      exact k H (Same.refl H)
theorem scIsHear : FnScope ["value"] ["value"] (defScope sIsHear) := ⟨rfl, rfl, rfl, by decide +kernel, rfl, by decide +kernel, by decide +kernel⟩
theorem ok_isHear {f fN : Addr} {fd fdN : FuncData} (F : Fun K "_is_hear" "_is_hear" sIsHear f fd) (T : TxtF K mg kw)
    (GN : FnOk P w K mg base CX0 1 fN fdN ["value"] (spB K nameB)) (kN : PySem.W.keepIn K (.ref fN) = true) (bN : Binds K fdN ["value"] []) (mN : mg "is_name" = some (.ref fN)) :
    FnOk P w K mg base CX0 8 f fd ["value"] (spT K hearB) := by
  refine F.ok scIsHear (fun vs H Q E h => ?_) (fun cdv A outer s H vs Q E hr h => ?_)
  · obtain ⟨v, l, rfl, _⟩ := h
    rfl
  · obtain ⟨v, l, rfl, r, k⟩ := h
    have hr1 : Room 1 _ := hr.mono (by decide)
    obtain ⟨p, xs, rfl, hp, ra⟩ := r.tup_inv
    have hl := ra.len
    refine ⟨_, pss_one (ps_ret (pe_and (pe_cmpR op_eq (pe_callB call_len_seq (by rfl) T.len boot_len (pa_cons (pv 0) pa_nil)) pe_int (nomark _)) (pe_and (pe_call GN hr1 (by rfl) mN kN bN .nil pass0 (pa_cons (pe_ix ix_tup (pv 0) pe_int (fun _ _ => rfl)) pa_nil))
      (pe_one (pe_call GN hr1 (by rfl) mN kN bN .nil pass0 (pa_cons (pe_ix ix_tup (pv 0) pe_int (fun _ _ => rfl)) pa_nil)))))), ?_⟩
    refine ⟨_, rfl, p, xs, rfl, .inr (SqT.of hp), rfl, _, rfl, ?_⟩
    by_cases c : xs.length = 3
    · refine ite2 (fun _ => ?_) (fun z => absurd (decide_eq_true (by rw [c]; rfl)) z)
      have e1 : hearB (.tup l) = (nameB (argB (.tup l) 1) && nameB (argB (.tup l) 2)) := by
        show ((l.length == 3) && _) = _
        rw [← hl, c]
        rfl
      obtain ⟨v1, x1, r1⟩ := arg_at (i := 1) ra (by omega)
      obtain ⟨v2, x2, r2⟩ := arg_at (i := 2) ra (by omega)
      refine ⟨_, rfl, p, _, _, _, rfl, rfl, SqT.of hp, at_of (j := 1) rfl x1, v1, _, rfl, r1, fun H1 s1 => ⟨_, rfl, ?_⟩⟩
      rw [e1] at k
      cases hb : nameB (argB (.tup l) 1) with
      | false =>
        rw [hb] at k
        exact iteF (k H1 s1)
      | true =>
        rw [hb, Bool.true_and] at k
        exact iteT ⟨_, rfl, p, _, _, _, rfl, rfl, SqT.of (s1 _ _ hp), at_of (j := 2) rfl x2, v2, _, rfl, r2.keep s1, fun H2 s2 => k H2 (s1.trans s2)⟩
    · refine ite2 (fun z => absurd (V.int.inj (of_decide_eq_true z)) (by omega)) fun _ => ?_
      have e1 : hearB (.tup l) = false := by
        show ((l.length == 3) && _) = _
        rw [← hl, beq_eq_false_iff_ne.mpr c, Bool.false_and]
      rw [e1] at k
      exact k H (Same.refl H)
theorem scIsRepeat : FnScope ["value"] ["value"] (defScope sIsRepeat) := ⟨rfl, rfl, rfl, by decide +kernel, rfl, by decide +kernel, by decide +kernel⟩
theorem ok_isRepeat {f fB : Addr} {fd fdB : FuncData} (F : Fun K "_is_repeat" "_is_repeat" sIsRepeat f fd) (T : TxtF K mg kw)
    (GB : FnOk P w K mg base CX0 1 fB fdB ["value"] (spB K blockB)) (kB : PySem.W.keepIn K (.ref fB) = true) (bB : Binds K fdB ["value"] []) (mB : mg "is_block" = some (.ref fB)) : FnOk P w K mg base CX0 8 f fd ["value"] (spT K repeatB) := by
  refine F.ok scIsRepeat (fun vs H Q E h => ?_) (fun cdv A outer s H vs Q E hr h => ?_)
  · obtain ⟨v, l, rfl, _⟩ := h
    rfl
  · obtain ⟨v, l, rfl, r, k⟩ := h
    have hr1 : Room 1 _ := hr.mono (by decide)
    obtain ⟨p, xs, rfl, hp, ra⟩ := r.tup_inv
    have hl := ra.len
    refine ⟨_, pss_one (ps_ret (pe_and (pe_cmpR op_eq (pe_callB call_len_seq (by rfl) T.len boot_len (pa_cons (pv 0) pa_nil)) pe_int (nomark _)) (pe_one (pe_call GB hr1 (by rfl) mB kB bB .nil pass0 (pa_cons (pe_ix ix_tup (pv 0) pe_int (fun _ _ => rfl)) pa_nil))))), ?_⟩
    refine ⟨_, rfl, p, xs, rfl, .inr (SqT.of hp), rfl, _, rfl, ?_⟩
    by_cases c : xs.length = 2
    · refine ite2 (fun _ => ?_) (fun z => absurd (decide_eq_true (by rw [c]; rfl)) z)
      have e1 : repeatB (.tup l) = blockB (argB (.tup l) 1) := by
        show ((l.length == 2) && _) = _
        rw [← hl, c]
        rfl
      obtain ⟨v1, x1, r1⟩ := arg_at (i := 1) ra (by omega)
      rw [e1] at k
      exact ⟨_, rfl, p, _, _, _, rfl, rfl, SqT.of hp, at_of (j := 1) rfl x1, v1, _, rfl, r1, fun H1 s1 => k H1 s1⟩
    · refine ite2 (fun z => absurd (V.int.inj (of_decide_eq_true z)) (by omega)) fun _ => ?_
      have e1 : repeatB (.tup l) = false := by
        show ((l.length == 2) && _) = _
        rw [← hl, beq_eq_false_iff_ne.mpr c, Bool.false_and]
      rw [e1] at k
      exact k H (Same.refl H)
theorem ok_isWordD {f : Addr} {fd : FuncData} (F : Fun K "_is_word" "_is_word" sIsWord f fd) (T : TxtF K mg kw) : FnOk P w K mg base CX0 8 f fd ["value"] (spT K wordB) := by
  refine F.ok scIsWord (fun vs H Q E h => ?_) (fun cdv A outer s H vs Q E hr h => ?_)
  · obtain ⟨v, l, rfl, _⟩ := h
    rfl
  · obtain ⟨v, l, rfl, r, k⟩ := h
    obtain ⟨p, xs, rfl, hp, ra⟩ := r.tup_inv
    have hl := ra.len
    refine ⟨_, pss_one (ps_ret (pe_cmpR op_eq (pe_callB call_len_seq (by rfl) T.len boot_len (pa_cons (pv 0) pa_nil)) pe_int (nomark _))), ?_⟩
    refine ⟨_, rfl, p, xs, rfl, .inr (SqT.of hp), rfl, ?_⟩
    have e : decide (V.int xs.length = V.int 1) = wordB (.tup l) := by
      show _ = (l.length == 1)
      rw [← hl]
      by_cases c : xs.length = 1
      · rw [c]
        rfl
      · rw [beq_eq_false_iff_ne.mpr c]
        exact decide_eq_false fun z => c (by have := V.int.inj z; omega)
    show Q (.bl (decide (V.int xs.length = V.int 1))) H
    rw [e]
    exact k H (Same.refl H)
end
end Oh
namespace Oh
open PySem PySem.Spec PyProof.Rows L2
section
variable {P : Program} {w : World} {K : PySem.W.Frag} {mg : Str → Option Value} {base : Heap} {kw pk ck : Addr}
theorem scIsIf : FnScope ["value"] ["value"] (defScope sIsIf) := ⟨rfl, rfl, rfl, by decide +kernel, rfl, by decide +kernel, by decide +kernel⟩
theorem ok_isIf {f fB fE : Addr} {fd fdB fdE : FuncData} {ds : List Value} (F : Fun K "_is_if" "_is_if" sIsIf f fd) (T : TxtF K mg kw)
    (GB : FnOk P w K mg base CX0 1 fB fdB ["value"] (spB K blockB)) (kB : PySem.W.keepIn K (.ref fB) = true) (bB : Binds K fdB ["value"] []) (mB : mg "is_block" = some (.ref fB))
    (GE : FnOk P w K mg base CX0 7 fE fdE ["value", "deepest"] (spExpr K 4)) (kE : PySem.W.keepIn K (.ref fE) = true) (vE : Vals [V.int 5] ds) (bE : Binds K fdE ["value", "deepest"] ds) (mE : mg "is_expression" = some (.ref fE)) :
    FnOk P w K mg base CX0 8 f fd ["value"] (spT K ifB) := by
  refine F.ok scIsIf (fun vs H Q E h => ?_) (fun cdv A outer s H vs Q E hr h => ?_)
  · obtain ⟨v, l, rfl, _⟩ := h
    rfl
  · obtain ⟨v, l, rfl, r, k⟩ := h
    have hr1 : Room 1 _ := hr.mono (by decide)
    obtain ⟨p, xs, rfl, hp, ra⟩ := r.tup_inv
    have hl := ra.len
    refine ⟨_, pss_one (ps_ret (pe_and (pe_cmpR op_eq (pe_callB call_len_seq (by rfl) T.len boot_len (pa_cons (pv 0) pa_nil)) pe_int (nomark _)) (pe_and (pe_call GE hr (by rfl) mE kE bE vE pass0 (pa_cons (pe_ix ix_tup (pv 0) pe_int (fun _ _ => rfl)) pa_nil))
      (pe_and (pe_call GB hr1 (by rfl) mB kB bB .nil pass0 (pa_cons (pe_ix ix_tup (pv 0) pe_int (fun _ _ => rfl)) pa_nil)) (pe_one (pe_call GB hr1 (by rfl) mB kB bB .nil pass0 (pa_cons (pe_ix ix_tup (pv 0) pe_int (fun _ _ => rfl)) pa_nil))))))), ?_⟩
    refine ⟨_, rfl, p, xs, rfl, .inr (SqT.of hp), rfl, _, rfl, ?_⟩
    by_cases c : xs.length = 4
    · refine ite2 (fun _ => ?_) (fun z => absurd (decide_eq_true (by rw [c]; rfl)) z)
      have e1 : ifB (.tup l) = (exprB 4 (argB (.tup l) 1) && (blockB (argB (.tup l) 2) && blockB (argB (.tup l) 3))) := by
        show ((l.length == 4) && _) = _
        rw [← hl, c]
        rfl
      obtain ⟨v1, x1, r1⟩ := arg_at (i := 1) ra (by omega)
      obtain ⟨v2, x2, r2⟩ := arg_at (i := 2) ra (by omega)
      obtain ⟨v3, x3, r3⟩ := arg_at (i := 3) ra (by omega)
      refine ⟨_, rfl, p, _, _, _, rfl, rfl, SqT.of hp, at_of (j := 1) rfl x1, v1, _, rfl, r1, fun H1 s1 => ⟨_, rfl, ?_⟩⟩
      rw [e1] at k
      cases hb : exprB 4 (argB (.tup l) 1) with
      | false =>
        rw [hb, Bool.false_and] at k
        exact iteF (k H1 s1)
      | true =>
        rw [hb, Bool.true_and] at k
        refine iteT ⟨_, rfl, p, _, _, _, rfl, rfl, SqT.of (s1 _ _ hp), at_of (j := 2) rfl x2, v2, _, rfl, r2.keep s1, fun H2 s2 => ⟨_, rfl, ?_⟩⟩
        have s12 := s1.trans s2
        cases hc : blockB (argB (.tup l) 2) with
        | false =>
          rw [hc, Bool.false_and] at k
          exact iteF (k H2 s12)
        | true =>
          rw [hc, Bool.true_and] at k
          exact iteT ⟨_, rfl, p, _, _, _, rfl, rfl, SqT.of (s12 _ _ hp), at_of (j := 3) rfl x3, v3, _, rfl, r3.keep s12, fun H3 s3 => k H3 (s12.trans s3)⟩
    · refine ite2 (fun z => absurd (V.int.inj (of_decide_eq_true z)) (by omega)) fun _ => ?_
      have e1 : ifB (.tup l) = false := by
        show ((l.length == 4) && _) = _
        rw [← hl, beq_eq_false_iff_ne.mpr c, Bool.false_and]
      rw [e1] at k
      exact k H (Same.refl H)
theorem choice_inv {d : DT} (h : choiceB d = true) : ∃ l, d = .tup l ∧ l.length ≤ 4 := by
  cases d with
  | tup l =>
    have h : (decide (1 ≤ l.length) && decide (l.length ≤ 4)) = true := h
    exact ⟨l, rfl, of_decide_eq_true (Bool.and_eq_true_iff.mp h).2⟩
  | _ => cases h
theorem scIsOpen : FnScope ["value", "block"] ["value"] (defScope sIsOpen) := ⟨rfl, rfl, rfl, by decide +kernel, rfl, by decide +kernel, by decide +kernel⟩
theorem ok_isOpen {f fB fC : Addr} {fd fdB fdC : FuncData} (F : Fun K "_is_open" "_is_open" sIsOpen f fd) (T : TxtF K mg kw)
    (GB : FnOk P w K mg base CX0 1 fB fdB ["value"] (spB K blockB)) (kB : PySem.W.keepIn K (.ref fB) = true) (bB : Binds K fdB ["value"] []) (mB : mg "is_block" = some (.ref fB))
    (GC : FnOk P w K mg base CX0 1 fC fdC ["value"] (spB K choiceB)) (kC : PySem.W.keepIn K (.ref fC) = true) (bC : Binds K fdC ["value"] []) (mC : mg "_is_choice" = some (.ref fC)) :
    FnOk P w K mg base CX0 8 f fd ["value"] (spT K openB) := by
  refine F.ok scIsOpen (fun vs H Q E h => ?_) (fun cdv A outer s H vs Q E hr h => ?_)
  · obtain ⟨v, l, rfl, _⟩ := h
    rfl
  · obtain ⟨v, l, rfl, r, k⟩ := h
    have hr1 : Room 1 _ := hr.mono (by decide)
    obtain ⟨p, xs, rfl, hp, ra⟩ := r.tup_inv
    have hl := ra.len
    refine ⟨_, pss_one (ps_ret (pe_and (pe_cmpR op_eq (pe_callB call_len_seq (by rfl) T.len boot_len (pa_cons (pv 0) pa_nil)) pe_int (nomark _)) (pe_and (pe_call GC hr1 (by rfl) mC kC bC .nil pass0 (pa_cons (pe_ix ix_tup (pv 0) pe_int (fun _ _ => rfl)) pa_nil))
      (pe_one (pe_callB (cr_all rfl) (by rfl) T.all boot_allO (pa_cons
        (pe_lc (own := [("block", 1)]) (g := gName 1) (tt := tYes) rfl scIsOpen.nd (pi_tup (pe_ix ix_tup (pv 0) pe_int (fun _ _ => rfl))) (blkOk_by (N := ["value", "block"]) (sc := defScope sIsOpen) (by decide +kernel)) (fun _ _ _ _ _ => pg_name (i := 1) scIsOpen.nd rfl (Or.inl rfl)) (fun _ _ _ _ _ => pts_nil)
          (fun _ _ _ _ _ => pe_call GB hr1 (by rfl) mB kB bB .nil pass0 (pa_cons (pv 1) pa_nil))) pa_nil)))))), ?_⟩
    refine ⟨_, rfl, p, xs, rfl, .inr (SqT.of hp), rfl, _, rfl, ?_⟩
    by_cases c : xs.length = 2
    · refine ite2 (fun _ => ?_) (fun z => absurd (decide_eq_true (by rw [c]; rfl)) z)
      have e1 : openB (.tup l) = (choiceB (argB (.tup l) 1) && ((listB (argB (.tup l) 1)).map blockB).all id) := by
        show ((l.length == 2) && _) = _
        rw [← hl, c]
        rfl
      obtain ⟨v1, x1, r1⟩ := arg_at (i := 1) ra (by omega)
      refine ⟨_, rfl, p, _, _, _, rfl, rfl, SqT.of hp, at_of (j := 1) rfl x1, v1, _, rfl, r1, fun H1 s1 => ⟨_, rfl, ?_⟩⟩
      rw [e1] at k
      cases hb : choiceB (argB (.tup l) 1) with
      | false =>
        rw [hb, Bool.false_and] at k
        exact iteF (k H1 s1)
      | true =>
        obtain ⟨m, em, lm⟩ := choice_inv hb
        rw [hb, Bool.true_and, em] at k
        rw [em] at r1
        obtain ⟨q, ys, rfl, hq, rm⟩ := (r1.keep s1).tup_inv
        have hq1 : SqT K H1 q ys := SqT.of hq
        refine iteT ⟨_, rfl, p, _, _, _, rfl, rfl, SqT.of (s1 _ _ hp), at_of (j := 1) rfl x1, q, rfl, ⟨_, hq1⟩, fun D nD => lc_it (walk_tup (xs := ys)) (fun i H' => Same H1 H' ∧ H' D = some (.lst (((m.map blockB).take i).map V.bl))) ⟨Same.new nD, upd_same⟩ (fun i H' _ z => SqT.of (z.1 _ _ hq)) ?_ ?_⟩
        · rintro i x Ha Hb hi ⟨sa, da⟩ ⟨e, ex⟩
          subst e
          have li : i < m.length := by rw [← rm.len]; exact hi
          obtain ⟨vi, ev, rv⟩ := rm.get (i := i) (d := m[i]) (List.getElem?_eq_getElem li)
          obtain rfl := Option.some.inj (ev.symm.trans ex)
          have lc : (m.map blockB)[i]? = some (blockB m[i]) := by rw [List.getElem?_map, List.getElem?_eq_getElem li]; rfl
          refine ⟨rfl, _, rfl, vi, m[i], rfl, rv.keep sa, fun Hc sc => ⟨_, sc _ _ da, ?_, fun b o e => ?_, ?_⟩⟩
          · rw [List.length_map, List.length_take, List.length_map]
            exact Nat.lt_of_le_of_lt (Nat.min_le_right _ _) (Nat.lt_of_le_of_lt lm (by decide))
          · rw [upd_ne (ne_of_none e nD)]
            exact sc _ _ (sa _ _ e)
          · rw [upd_same, List.take_add_one, lc]
            simp
        · rintro Hc ⟨sc, dc⟩
          refine ⟨D, m.map blockB, rfl, SqL.of ?_, k Hc (s1.trans sc)⟩
          rw [dc, List.take_of_length_le]
          rw [List.length_map, rm.len]
          exact Nat.le_refl _
    · refine ite2 (fun z => absurd (V.int.inj (of_decide_eq_true z)) (by omega)) fun _ => ?_
      have e1 : openB (.tup l) = false := by
        show ((l.length == 2) && _) = _
        rw [← hl, beq_eq_false_iff_ne.mpr c, Bool.false_and]
      rw [e1] at k
      exact k H (Same.refl H)
end
end Oh
namespace Oh
open PySem PySem.Spec PyProof.Rows L2
def portB (d : DT) : Str := match argB d 0 with
  | .str s => s
  | _ => ""
def waitB (d : DT) : Bool := lenB d == 2 && (choiceB (argB d 1) && (((listB (argB d 1)).map rowB).all id && decide ((listB (argB d 1)).map portB).Nodup))
def kindB (h : Str) : Option (DT → Bool) :=
  if h = "set" ∨ h = "tell" then some setTellB else if h = "hear" then some hearB else if h = "wait" then some waitB else if h = "open" then some openB else if h = "if" then some ifB else if h = "repeat" then some repeatB
  else if h = "leave" ∨ h = "home" ∨ h = "fail" then some wordB else none
def stmtB (d : DT) : Bool := match kindB (headB d) with
  | none => false
  | some g => g d
/-- CHECKS -/
def checksK (fS fH fW fO fI fR fw : Addr) : List (Str × V) :=
  [("set", .ref fS), ("tell", .ref fS), ("hear", .ref fH), ("wait", .ref fW), ("open", .ref fO), ("if", .ref fI), ("repeat", .ref fR), ("leave", .ref fw), ("home", .ref fw), ("fail", .ref fw)]
/-- a check among CHECKS -/
structure Chk (P : Program) (w : World) (K : PySem.W.Frag) (mg : Str → Option Value) (base : Heap) (f : Addr) (g : DT → Bool) : Prop where
  ex : ∃ fd, FnOk P w K mg base CX0 8 f fd ["value"] (spT K g) ∧ Binds K fd ["value"] []
  kp : PySem.W.keepIn K (.ref f) = true
section
variable {P : Program} {w : World} {K : PySem.W.Frag} {mg : Str → Option Value} {base : Heap} {kw pk ck : Addr}
theorem kind_none {h : Str} (e : kindB h = none) {fS fH fW fO fI fR fw : Addr} : h ∉ (checksK fS fH fW fO fI fR fw).map (·.1) := by
  unfold kindB at e
  repeat' split at e
  all_goals first | cases e | skip
  rename_i h1 h2 h3 h4 h5 h6 h7
  intro m
  have m' : h = "set" ∨ h = "tell" ∨ h = "hear" ∨ h = "wait" ∨ h = "open" ∨ h = "if" ∨ h = "repeat" ∨ h = "leave" ∨ h = "home" ∨ h = "fail" := by simpa [checksK] using m
  rcases m' with z | z | z | z | z | z | z | z | z | z
  · exact h1 (.inl z)
  · exact h1 (.inr z)
  · exact h2 z
  · exact h3 z
  · exact h4 z
  · exact h5 z
  · exact h6 z
  · exact h7 (.inl z)
  · exact h7 (.inr (.inl z))
  · exact h7 (.inr (.inr z))
theorem kind_some {h : Str} {g : DT → Bool} (e : kindB h = some g) {fS fH fW fO fI fR fw : Addr} (CS : Chk P w K mg base fS setTellB) (CH : Chk P w K mg base fH hearB) (CW : Chk P w K mg base fW waitB) (CO : Chk P w K mg base fO openB) (CI : Chk P w K mg base fI ifB) (CR : Chk P w K mg base fR repeatB) (Cw : Chk P w K mg base fw wordB) :
    h ≠ "" ∧ ∃ f1, (h, V.ref f1) ∈ checksK fS fH fW fO fI fR fw ∧ Chk P w K mg base f1 g := by
  unfold kindB at e
  split at e
  · rename_i h1
    cases e
    rcases h1 with rfl | rfl
    · exact ⟨by decide, fS, .head _, CS⟩
    · exact ⟨by decide, fS, .tail _ (.head _), CS⟩
  split at e
  · rename_i h1
    cases e
    subst h1
    exact ⟨by decide, fH, .tail _ (.tail _ (.head _)), CH⟩
  split at e
  · rename_i h1
    cases e
    subst h1
    exact ⟨by decide, fW, .tail _ (.tail _ (.tail _ (.head _))), CW⟩
  split at e
  · rename_i h1
    cases e
    subst h1
    exact ⟨by decide, fO, .tail _ (.tail _ (.tail _ (.tail _ (.head _)))), CO⟩
  split at e
  · rename_i h1
    cases e
    subst h1
    exact ⟨by decide, fI, .tail _ (.tail _ (.tail _ (.tail _ (.tail _ (.head _))))), CI⟩
  split at e
  · rename_i h1
    cases e
    subst h1
    exact ⟨by decide, fR, .tail _ (.tail _ (.tail _ (.tail _ (.tail _ (.tail _ (.head _)))))), CR⟩
  split at e
  · rename_i h1
    cases e
    rcases h1 with rfl | rfl | rfl
    · exact ⟨by decide, fw, .tail _ (.tail _ (.tail _ (.tail _ (.tail _ (.tail _ (.tail _ (.head _))))))), Cw⟩
    · exact ⟨by decide, fw, .tail _ (.tail _ (.tail _ (.tail _ (.tail _ (.tail _ (.tail _ (.tail _ (.head _)))))))), Cw⟩
    · exact ⟨by decide, fw, .tail _ (.tail _ (.tail _ (.tail _ (.tail _ (.tail _ (.tail _ (.tail _ (.tail _ (.head _))))))))), Cw⟩
  · cases e
theorem ok_isStatementD {f fD fS fH fW fO fI fR fw : Addr} {fd fdD : FuncData} (F : Fun K "is_statement" "is_statement" sIsStatement f fd)
    (GD : FnOk P w K mg base CX0 1 fD fdD ["value"] (spHd K)) (kD : PySem.W.keepIn K (.ref fD) = true) (bD : Binds K fdD ["value"] []) (mD : mg "head_of" = some (.ref fD))
    (mC : mg "CHECKS" = some (.ref ck)) (wc : WD K w ck (checksK fS fH fW fO fI fR fw))
    (CS : Chk P w K mg base fS setTellB) (CH : Chk P w K mg base fH hearB) (CW : Chk P w K mg base fW waitB) (CO : Chk P w K mg base fO openB) (CI : Chk P w K mg base fI ifB) (CR : Chk P w K mg base fR repeatB) (Cw : Chk P w K mg base fw wordB) :
    FnOk P w K mg base CX0 9 f fd ["value"] (spB K stmtB) := by
  refine F.ok scIsStatement (fun vs H Q E h => ?_) (fun cdv A outer s H vs Q E hr h => ?_)
  · obtain ⟨v, d, rfl, _⟩ := h
    rfl
  · obtain ⟨v, d, rfl, r, k⟩ := h
    have hr1 : Room 1 _ := hr.mono (by decide)
    have body : ∀ (f1 : Addr) (g : DT → Bool), Chk P w K mg base f1 g → ((kindB (headB d) = none) ∨ (headB d ≠ "" ∧ (headB d, V.ref f1) ∈ checksK fS fH fW fO fI fR fw ∧ stmtB d = g d)) →
        ∃ t, PSs (cxOf CX0 P w K mg base ["value", "head", "check"] "is_statement" (defScope sIsStatement) f cdv A outer s H E).nox (defBody sIsStatement) t ∧ t { nx := fun _ H' => Q .non H', rt := Q } (start ["value", "head", "check"] [v]) H := by
      intro f1 g C h
      obtain ⟨fd1, G1, b1⟩ := C.ex
      refine ⟨_, pss_cons (ps_set (i := 1) scIsStatement.nd rfl (Or.inl rfl) (pe_call GD hr1 (by rfl) mD kD bD .nil pass0 (pa_cons (pv 0) pa_nil)))
        (pss_cons (ps_if (pt_cmpR op_kdNotIn (pv 1) (pe_glob (v := .ref ck) (by rfl) mC rfl) (by rfl)) (pss_one (ps_ret pe_bl)) pss_nil)
        (pss_cons (ps_set (i := 2) scIsStatement.nd rfl (Or.inl rfl) (pe_ix ix_kdict (pe_glob (v := .ref ck) (by rfl) mC rfl) (pv 1) (fun _ _ => rfl)))
        (pss_one (ps_ret (pe_callL (i := 2) G1 hr rfl (Or.inl rfl) C.kp b1 .nil pass0 (pa_cons (pv 0) pa_nil)))))), ?_⟩
      refine ⟨_, rfl, v, d, rfl, r, ?_⟩
      rcases h with h | ⟨ne, mem, eg⟩
      · refine ⟨_, rfl, ck, _, rfl, rfl, .inr ⟨wc.miss (kind_none h), _, rfl, iteT ?_⟩⟩
        have e : stmtB d = false := by unfold stmtB; rw [h]
        have k0 := k H (Same.refl H)
        rw [e] at k0
        exact k0
      · refine ⟨_, rfl, ck, _, rfl, rfl, .inl ⟨_, wc.at mem, wc.lo, _, rfl, iteF ?_⟩⟩
        refine ⟨_, rfl, ck, _, _, rfl, rfl, wc.at mem, ?_⟩
        obtain ⟨l, el⟩ := head_inv (d := d) ne
        rw [eg, el] at k
        rw [el] at r
        exact ⟨rfl, _, rfl, v, _, rfl, r, k⟩
    cases e : kindB (headB d) with
    | none => exact body fw wordB Cw (.inl e)
    | some g =>
      obtain ⟨ne, f1, mem, C⟩ := kind_some e CS CH CW CO CI CR Cw
      exact body f1 g C (.inr ⟨ne, mem, by unfold stmtB; rw [e]⟩)
end
end Oh
/-! Set comprehensions of two clauses, over any kind of member: e0 says what the new set is, Add what one member more makes of it. -/
namespace Oh
open PySem PySem.Spec PyProof.Rows L2 PpSet
abbrev sc2 (elt t0 i0 t1 i1 : Expr) (ifs0 ifs1 : List Expr) (scope : Scope) (pos : Pos) : Expr := .SetComp elt [⟨t0, i0, ifs0, 0⟩, ⟨t1, i1, ifs1, 0⟩] scope pos
section
variable (elt t0 i0 t1 i1 : Expr) (ifs0 ifs1 : List Expr) (scope : Scope) (pos : Pos) (it acc : Value) (env : Env)
theorem turnOuter : compTurn (sc2 elt t0 i0 t1 i1 ifs0 ifs1 scope pos) 0 it acc env = (do
      standAt i0.pos
      match ← pyNext it with
      | none => pure (.done .next)
      | some v =>
        letOwnedTupleGo t0 it v
        assign t0 env v
        let mut ok := true
        for c in ifs0 do
          if ok then ok ← isTrue c env (eval c env)
        if ok then
          let x ← eval i1 env
          standAt i1.pos
          let x ← foldedSetIterable i1 env x
          let _ ← runOwn (.compStart (sc2 elt t0 i0 t1 i1 ifs0 ifs1 scope pos) 1 (← holding [x] (pyIter x)) acc env) env
        again (.compLoop (sc2 elt t0 i0 t1 i1 ifs0 ifs1 scope pos) 0 it acc env)) := by rfl
theorem turnInner : compTurn (sc2 elt t0 i0 t1 i1 ifs0 ifs1 scope pos) 1 it acc env = (do
      standAt i1.pos
      match ← pyNext it with
      | none => pure (.done .next)
      | some v =>
        letOwnedTupleGo t1 it v
        assign t1 env v
        let mut ok := true
        for c in ifs1 do
          if ok then ok ← isTrue c env (eval c env)
        if ok then
          (do let v ← eval elt env; standAt elt.pos; let _ ← call (.builtin "set.add") [acc, v])
        again (.compLoop (sc2 elt t0 i0 t1 i1 ifs0 ifs1 scope pos) 1 it acc env)) := by rfl
end
section
variable {prog : Program} {w : World} {A : Around} {R : Result → Shared → Prop} {s : Shared} {elt t0 i0 t1 i1 : Expr} {ifs0 ifs1 : List Expr} {scope : Scope} {pos : Pos} {it acc : Value} {env : Env}
abbrev NB (prog : Program) (w : World) (A : Around) (env : Env) (R : Result → Shared → Prop) : Value → Shared → Prop := notedBy (model prog w) A env fun e s' => R (.error e) s'
abbrev testsOf (ifs : List Expr) (env : Env) : Sem Bool := forIn ifs true fun c r => if r = true then do let ok ← isTrue c env (eval c env); pure (ForInStep.yield ok) else pure (ForInStep.yield r)
theorem outer_loop (hs : ∀ x, foldedSetIterable i1 env x = pure x) (I : Nat → Shared → Prop)
    (turn : ∀ n s, I n s → wpAny (model prog w) A (pyNext it) (fun r a => match r with
      | none => R (.ok .next) a
      | some v => wpAny (model prog w) A (letOwnedTupleGo t0 it v) (fun _ b => wpAny (model prog w) A (assign t0 env v) (fun _ c => wpAny (model prog w) A (testsOf ifs0 env) (fun ok d =>
            if ok = true then wpAny (model prog w) A (eval i1 env) (fun x e => wpAny (model prog w) A (pyIter x) (fun it1 f =>
              codeAny (model prog w) A (.compStart (sc2 elt t0 i0 t1 i1 ifs0 ifs1 scope pos) 1 it1 acc env) (fun r s' => match r with
                | .ok _ => ∃ m, m < n ∧ I m s'
                | .error _ => False) f) (NB prog w A env R) e) (NB prog w A env R) d
            else ∃ m, m < n ∧ I m d) (NB prog w A env R) c) (NB prog w A env R) b) (NB prog w A env R) a) (NB prog w A env R) s)
    (n : Nat) (h : I n s) : codeAny (model prog w) A (.compLoop (sc2 elt t0 i0 t1 i1 ifs0 ifs1 scope pos) 0 it acc env) R s := by
  refine codeAny_loop rfl I (fun n s hI => ?_) n h
  show wpAny _ A ((compTurn (sc2 elt t0 i0 t1 i1 ifs0 ifs1 scope pos) 0 it acc env).onRaise (fun x => do noteFrame x env; theTreesLotGoes x)) _ _ s
  refine wpAny_noted ?_
  rw [turnOuter]
  refine wpAny_bind (wpAny_standAt (wpAny_bind (wpAny_mono (turn n s hI) (fun r a ha => ?_) fun _ _ z => z)))
  cases r with
  | none => exact wpAny_pure ha
  | some v =>
    refine wpAny_bind (wpAny_mono ha (fun _ b hb => wpAny_bind (wpAny_mono hb (fun _ c hc => wpAny_bind (wpAny_mono hc (fun ok d hd => ?_) fun _ _ z => z)) fun _ _ z => z)) fun _ _ z => z)
    cases ok with
    | false => exact wpAny_pure ⟨rfl, hd⟩
    | true =>
      refine wpAny_bind (wpAny_mono hd (fun x e he => ?_) fun _ _ z => z)
      refine wpAny_bind (wpAny_standAt (wpAny_bind (wpAny_of_eq (hs x) (wpAny_bind (wpAny_holding (wpAny_mono he (fun it1 f hf => ?_) fun _ _ z => z))))))
      refine wpAny_bind (wpAny_runOwn ?_)
      rw [Around.mark_none]
      refine codeAny_mono hf fun r s' hr => ?_
      cases r with
      | error e => exact hr.elim
      | ok f =>
        first
          | exact wpAny_pure ⟨rfl, hr⟩
          | exact wpAny_bind (wpAny_pure (wpAny_pure ⟨rfl, hr⟩))
theorem inner_loop (I : Nat → Shared → Prop)
    (turn : ∀ n s, I n s → wpAny (model prog w) A (pyNext it) (fun r a => match r with
      | none => R (.ok .next) a
      | some v => wpAny (model prog w) A (letOwnedTupleGo t1 it v) (fun _ b => wpAny (model prog w) A (assign t1 env v) (fun _ c => wpAny (model prog w) A (testsOf ifs1 env) (fun ok d =>
            if ok = true then wpAny (model prog w) A (eval elt env) (fun x e => wpAny (model prog w) A (call (.builtin "set.add") [acc, x]) (fun _ f => ∃ m, m < n ∧ I m f) (NB prog w A env R) e) (NB prog w A env R) d
            else ∃ m, m < n ∧ I m d) (NB prog w A env R) c) (NB prog w A env R) b) (NB prog w A env R) a) (NB prog w A env R) s)
    (n : Nat) (h : I n s) : codeAny (model prog w) A (.compLoop (sc2 elt t0 i0 t1 i1 ifs0 ifs1 scope pos) 1 it acc env) R s := by
  refine codeAny_loop rfl I (fun n s hI => ?_) n h
  show wpAny _ A ((compTurn (sc2 elt t0 i0 t1 i1 ifs0 ifs1 scope pos) 1 it acc env).onRaise (fun x => do noteFrame x env; theTreesLotGoes x)) _ _ s
  refine wpAny_noted ?_
  rw [turnInner]
  refine wpAny_bind (wpAny_standAt (wpAny_bind (wpAny_mono (turn n s hI) (fun r a ha => ?_) fun _ _ z => z)))
  cases r with
  | none => exact wpAny_pure ha
  | some v =>
    refine wpAny_bind (wpAny_mono ha (fun _ b hb => wpAny_bind (wpAny_mono hb (fun _ c hc => wpAny_bind (wpAny_mono hc (fun ok d hd => ?_) fun _ _ z => z)) fun _ _ z => z)) fun _ _ z => z)
    cases ok with
    | false => exact wpAny_pure ⟨rfl, hd⟩
    | true =>
      exact wpAny_bind (wpAny_bind (wpAny_mono hd (fun x e he => wpAny_bind (wpAny_standAt (wpAny_bind (wpAny_mono he (fun _ f hf => wpAny_pure (wpAny_pure ⟨rfl, hf⟩)) fun _ _ z => z)))) fun _ _ z => z))
theorem inner_start (h0 : codeAny (model prog w) A (.compLoop (sc2 elt t0 i0 t1 i1 ifs0 ifs1 scope pos) 1 it acc env) R s)
    (h : wpAny (model prog w) A (pyIter it) (fun it' s' => codeAny (model prog w) A (.compLoop (sc2 elt t0 i0 t1 i1 ifs0 ifs1 scope pos) 1 it' acc env) R s') (notedBy (model prog w) A env fun x s' => R (.error x) s') s) :
    codeAny (model prog w) A (.compStart (sc2 elt t0 i0 t1 i1 ifs0 ifs1 scope pos) 1 it acc env) R s := by
  refine codeAny_of_tree ?_
  show wpAny _ _ ((compStart (sc2 elt t0 i0 t1 i1 ifs0 ifs1 scope pos) 1 it acc env).onRaise (fun x => do noteFrame x env; standAt theWindowsPlace)) _ _ s
  refine wpAny_notedAt ?_
  unfold compStart
  show wpAny _ _ (ask >>= _) _ _ s
  refine wpAny_bind (wpAny_askSetting (wpAny_ite ?_))
  split
  · first
      | exact wpAny_bind (wpAny_pure (wpAny_pure (And.intro rfl h0)))
      | exact wpAny_pure (And.intro rfl h0)
  · first
      | exact wpAny_bind (wpAny_rule (wpAny_bind (wpAny_standAt (wpAny_bind (wpAny_mono h (fun it' s' z => wpAny_pure (And.intro rfl z)) fun _ _ x => x)))))
      | (refine wpAny_bind (wpAny_rule ?_); show wpAny _ _ (standAt i1.pos >>= _) _ _ s; exact wpAny_bind (wpAny_standAt (wpAny_bind (wpAny_mono h (fun it' s' z => wpAny_pure (And.intro rfl z)) fun _ _ x => x))))
end
/-- what the new set is, as the machine lays it -/
abbrev setObj (w : World) : Obj := { cls := .type "set", dict := none, data := .set #[] 0 (.fresh 0 0 (!w.params.followText "set-order")) }
/-- a kind of set: e0 tells of the new one at D, Add of one member more -/
structure SKind (P : Program) (w : World) (e0 : Addr → HO) (Add : Addr → V → Hp → Hp → Prop) : Prop where
  new : ∀ (H : Hp) (h : Heap), ObjOk P w H (h.push (setObj w)) h.objs.size (e0 h.objs.size)
  add : ∀ (X : Cx), X.prog = P → X.w = w → ∀ (pins : List (Addr × Obj)) (σ : L2.St) (H H' : Hp) (s : Shared) (E : Value → Shared → Prop) (D : Addr) (y : V) (u : Value) (Q : Value → Shared → Prop), Inv X pins σ H s → RelV y u → Add D y H H' →
    (∀ s', Inv X pins σ H' s' → Q .none s') → wpAny (model X.prog X.w) X.A (call (.builtin "set.add") [.ref D, u]) Q E s
def tSc2 (e0 : Addr → HO) (Add : Addr → V → Hp → Hp → Prop) (wi : TI) (g : TG) (tt : TT) (wi1 : TI) (g1 : TG) (tt1 : TT) (te : TE) (vs vs1 : List Nat) : TE := fun σ H Q => wi σ H fun J H1 => ∀ D, H1 D = none → ∃ W : Nat → Nat → Hp → Prop, (∃ m, W 0 m (upd H1 D (e0 D))) ∧ ∀ i m H, W i m H →
  (J.stop i H ∧ Q (.ref D) H) ∨ (J.go i H ∧ ∃ Nx : Hp → Prop, (∀ H', Nx H' → ∃ m', m' < m ∧ W (i + 1) m' H') ∧ ∀ x H', J.yld i H x H' → g x (wipe σ vs) H' fun σ2 H2 => wipe σ2 vs = wipe σ vs ∧ tt σ2 H2 fun b H3 =>
    if b = true then wi1 σ2 H3 fun J1 H4 => ∃ W1 : Nat → Nat → Hp → Prop, (∃ m, W1 0 m H4) ∧ ∀ j k H, W1 j k H →
      (J1.stop j H ∧ Nx H) ∨ (J1.go j H ∧ ∃ Nx1 : Hp → Prop, (∀ H', Nx1 H' → ∃ k', k' < k ∧ W1 (j + 1) k' H') ∧ ∀ x H', J1.yld j H x H' → g1 x (wipe σ2 vs1) H' fun σ3 H5 => wipe σ3 vs1 = wipe σ2 vs1 ∧ tt1 σ3 H5 fun b H6 =>
        if b = true then te σ3 H6 fun y H7 => ∃ H8, Add D y H7 H8 ∧ Nx1 H8 else Nx1 H6)
    else Nx H3)
section
variable {X : Cx}
theorem sc2_core {e0 : Addr → HO} {Add : Addr → V → Hp → Hp → Prop} {pins : List (Addr × Obj)} {s : Shared} {σ : L2.St} {H : Hp} {Q : VK} {elt tg iter tg1 iter1 : Expr} {ifs ifs1 : List Expr} {scope : Scope} {own : List (PySem.Str × Nat)} {vs1 : List Nat} {pos pos' : Pos} {wi wi1 : TI} {g g1 : TG} {tt tt1 : TT} {te : TE} {use : Option (Value → Sem Unit)} {Qf : Value → Shared → Prop}
    (kd : SKind X.prog X.w e0 Add) (hc : X.calm = true) (hN : X.N.Nodup) (I : Inv X pins σ H s) (hi : PI X tg iter wi) (ok : BlkOk X.N X.env.scope scope own) (hv : ∀ i ∈ vs1, i ∈ own.map (·.2))
    (hg : ∀ (s : Shared) (H : Hp) (C : Addr) (cl : List (PySem.Str × Addr)) (fp : List Addr), PG (X.blk s H scope (compEnvC scope cl C X.env) fp) tg g)
    (ht : ∀ (s : Shared) (H : Hp) (C : Addr) (cl : List (PySem.Str × Addr)) (fp : List Addr), PTs (X.blk s H scope (compEnvC scope cl C X.env) fp) ifs tt)
    (he : ∀ (s : Shared) (H : Hp) (C : Addr) (cl : List (PySem.Str × Addr)) (fp : List Addr), PE (X.blk s H scope (compEnvC scope cl C X.env) fp) elt te)
    (hi1 : ∀ (s : Shared) (H : Hp) (C : Addr) (cl : List (PySem.Str × Addr)) (fp : List Addr), PI (X.blk s H scope (compEnvC scope cl C X.env) fp) tg1 iter1 wi1)
    (hg1 : ∀ (s : Shared) (H : Hp) (C : Addr) (cl : List (PySem.Str × Addr)) (fp : List Addr), PG (X.blk s H scope (compEnvC scope cl C X.env) fp) tg1 g1)
    (ht1 : ∀ (s : Shared) (H : Hp) (C : Addr) (cl : List (PySem.Str × Addr)) (fp : List Addr), PTs (X.blk s H scope (compEnvC scope cl C X.env) fp) ifs1 tt1)
    (hs : ∀ x, foldedSetIterable iter X.env x = pure x) (hs1 : ∀ env x, foldedSetIterable iter1 env x = pure x)
    (h : tSc2 e0 Add wi g tt wi1 g1 tt1 te (own.map (·.2)) vs1 σ H Q)
    (hRR : ∀ D C s' m H', Inv X pins σ H' s' → Q (.ref D) H' → s'.heap.Ns C m → FpOk X pins H' C → compPost (model X.prog X.w) X.A X.xe use Qf (.ref D) C (.ok .next) s') :
    wpAny (model X.prog X.w) X.A (comprehension (sc2 elt tg iter tg1 iter1 ifs ifs1 scope pos) scope X.env pos' (newSet (.type "set")) false (eval iter X.env) use) Qf X.xe s := by
  have closes : ∀ y ∈ scope.names, y.2 = .free → ∃ c, X.env.cells.lookup y.1 = some c := fun y hy e => (ok.free y hy e).elim (fun k => I.ok.has _ (.inl k)) fun k => I.ok.has _ (.inr k)
  refine wpAny_comprehension_free (use := use) rfl hs (closure_ok closes) ok.kind (fun y hy e => by rw [ok.uniq y hy, e]) (thn (hi.run pins s σ H _ I h) fun xv s1 hx => thn hx fun itv s2 h2 => ?_)
  obtain ⟨it, fp, tn, J, H2, e, I2, T, st2, f2, q⟩ := h2
  subst e
  refine newSet_ok (newEnv_comp ?_)
  generalize hD : s2.heap.objs.size = D
  obtain ⟨W, ⟨m0, w0⟩, turn⟩ := q D (I2.hok.fresh (Nat.le_of_eq hD))
  generalize hs3 : ({ s2 with heap := s2.heap.push (setObj X.w) } : Shared) = s3
  have h3 : s3.heap = s2.heap.push (setObj X.w) := by rw [← hs3]
  have I3 : Inv X pins σ (upd H2 D (e0 D)) s3 := by
    rw [← hs3]
    refine I2.laid (t' := s2.toks) (fun b o z => Heap.get?_push_of_some _ z) (Nat.le_of_eq hD) ?_
    rw [← hD]
    exact kd.new _ s2.heap
  have f3 : ∀ b ∈ fp, FpOk X pins (upd H2 D (e0 D)) b ∧ b < s3.heap.objs.size := fun b hb => by
    obtain ⟨o, eo, _⟩ := T.obj _ _ st2 b hb
    have lt : b < s2.heap.objs.size := Heap.lt_size eo
    refine ⟨⟨?_, (f2 b hb).2⟩, by rw [h3, Heap.size_push]; exact Nat.lt_succ_of_lt lt⟩
    rw [upd_ne (by rw [← hD]; exact Nat.ne_of_lt lt)]
    exact (f2 b hb).1
  have st3 : tn 0 s3.heap := T.keep _ _ _ st2 fun b _ o z => by rw [h3]; exact Heap.get?_push_of_some _ z
  have I4 := block_start I3 ok hN f3
  have j1 := hg s3 (upd H2 D (e0 D)) s3.heap.objs.size (cellsFrom (s3.heap.objs.size + 1) scope.names (cloFrom X.env.cells scope.names [])) fp
  have j2 := ht s3 (upd H2 D (e0 D)) s3.heap.objs.size (cellsFrom (s3.heap.objs.size + 1) scope.names (cloFrom X.env.cells scope.names [])) fp
  have j3 := he s3 (upd H2 D (e0 D)) s3.heap.objs.size (cellsFrom (s3.heap.objs.size + 1) scope.names (cloFrom X.env.cells scope.names [])) fp
  have j4 := hi1 s3 (upd H2 D (e0 D)) s3.heap.objs.size (cellsFrom (s3.heap.objs.size + 1) scope.names (cloFrom X.env.cells scope.names [])) fp
  have j5 := hg1 s3 (upd H2 D (e0 D)) s3.heap.objs.size (cellsFrom (s3.heap.objs.size + 1) scope.names (cloFrom X.env.cells scope.names [])) fp
  have j6 := ht1 s3 (upd H2 D (e0 D)) s3.heap.objs.size (cellsFrom (s3.heap.objs.size + 1) scope.names (cloFrom X.env.cells scope.names [])) fp
  show codeAny _ _ (.compStart (sc2 elt tg iter tg1 iter1 ifs ifs1 scope pos) 0 (.ref it) (.ref D) (compEnvC scope (cellsFrom (s3.heap.objs.size + 1) scope.names (cloFrom X.env.cells scope.names [])) s3.heap.objs.size X.env)) (compPost (model X.prog X.w) X.A X.xe use Qf (.ref D) s3.heap.objs.size) { s3 with heap := pushCells (s3.heap.push { cls := .type "dict", data := .dict #[] }) scope.names }
  have none3 : ∀ b ∈ fp, (upd H2 D (e0 D)) b = none := fun b hb => (f3 b hb).1.1
  generalize hce : compEnvC scope (cellsFrom (s3.heap.objs.size + 1) scope.names (cloFrom X.env.cells scope.names [])) s3.heap.objs.size X.env = ce at I4 j1 j2 j3 j4 j5 j6 ⊢
  have cL : ce.locals = s3.heap.objs.size := by subst hce; rfl
  generalize hH3 : upd H2 D (e0 D) = H3 at I3 I4 j1 j2 j3 j4 j5 j6 w0 none3 f3
  generalize hs4 : ({ s3 with heap := pushCells (s3.heap.push { cls := .type "dict", data := .dict #[] }) scope.names } : Shared) = s4 at I4 ⊢
  have st4 : tn 0 s4.heap := T.keep _ _ _ st3 fun b _ o z => by rw [← hs4]; exact pushCells_keeps _ _ _ _ (Heap.get?_push_of_some _ z)
  have own4 : ∀ {σ' : L2.St} {H' : Hp} {s' : Shared}, Inv (X.blk s3 H3 scope ce fp) [] σ' H' s' → (∀ b ∈ fp, H' b = none) → ∀ b ∈ fp, FpOk (X.blk s3 H3 scope ce fp) [] H' b := fun {σ' H' s'} I' hn b hb =>
    ⟨hn b hb, (I'.ok.exf b hb).1, I'.ok.exfs b hb, .inl hb, fun x c e => (I'.ok.exf b hb).2 x c e, fun p hp => absurd (show p ∈ ([] : List (Addr × Obj)) ++ [] from hp) (by simp)⟩
  have loop : codeAny (model X.prog X.w) X.A (.compLoop (sc2 elt tg iter tg1 iter1 ifs ifs1 scope pos) 0 (.ref it) (.ref D) ce) (compPost (model X.prog X.w) X.A X.xe use Qf (.ref D) s3.heap.objs.size) s4 := by
    refine outer_loop (hs1 ce) (fun n s' => ∃ i H', Inv (X.blk s3 H3 scope ce fp) [] (wipe σ (own.map (·.2))) H' s' ∧ tn i s'.heap ∧ (∀ b ∈ fp, H' b = none) ∧ W i n H') ?_ m0 ⟨0, H3, I4, st4, none3, w0⟩
    rintro n s5 ⟨i, H5, I5, st5, n5, w5⟩
    rcases turn i n H5 w5 with ⟨stop, qq⟩ | ⟨go, Nx, hNx, step⟩
    · refine thnF (T.done (X.blk s3 H3 scope ce fp) rfl rfl rfl hc i [] s5 _ H5 (fun _ _ => False) I5 (own4 I5 n5) st5 stop) fun r s6 ⟨hr, I6⟩ => ?_
      subst hr
      have I7 : Inv X pins σ H5 s6 := I3.call' (ch := fp) I6.os I6.base I6.hok I6.bare fun b hb => ⟨(f3 b hb).1.2.2.2.1, (f3 b hb).1.2.1, (f3 b hb).1.2.2.2.2.1, (f3 b hb).1.2.2.2.2.2⟩
      have nC : H5 s3.heap.objs.size = none := by
        have z : H5 ce.locals = none := I6.free
        rw [cL] at z
        exact z
      obtain ⟨m, hn, _⟩ := I6.loc
      have hn : s6.heap.Ns ce.locals m := hn
      rw [cL] at hn
      exact hRR D s3.heap.objs.size s6 m H5 I7 qq hn (I3.fpOk (Nat.le_refl _) nC)
    · refine thnF (T.item (X.blk s3 H3 scope ce fp) rfl rfl rfl hc i [] s5 _ H5 (fun _ _ => False) I5 (own4 I5 n5) st5 go) fun r s6 ⟨u, hr, h6⟩ => ?_
      subst hr
      refine thnF h6 fun _ s7 ⟨x, H7, I7, r7, y7, st7, n7⟩ => ?_
      refine thnF (j1.run _ s7 _ H7 x u _ (I7.pinned (own4 I7 n7) (T.obj _ _ st7)) r7 (step x H7 y7)) fun _ s8 ⟨σ8, H8, I8, hw8, q8⟩ => ?_
      refine thnF (j2.run _ s8 σ8 H8 _ I8 q8) fun b s9 ⟨H9, I9, q9⟩ => ?_
      have over : ∀ {σ9 : L2.St} {s' : Shared} {H' : Hp}, Inv (X.blk s3 H3 scope ce fp) ([] ++ pinsAt fp s7.heap) σ9 H' s' → (wipe σ (own.map (·.2))).length = σ9.length → (∀ (j : Nat) v, (wipe σ (own.map (·.2)))[j]? = some (some v) → σ9[j]? = some (some v)) → Nx H' →
          ∃ m, m < n ∧ ∃ i H', Inv (X.blk s3 H3 scope ce fp) [] (wipe σ (own.map (·.2))) H' s' ∧ tn i s'.heap ∧ (∀ b ∈ fp, H' b = none) ∧ W i m H' := fun {σ9 s' H'} I' hl hk nx => by
        obtain ⟨m', hm, w'⟩ := hNx H' nx
        have pin : ∀ b ∈ fp, ∀ o, s7.heap.get? b = some o → s'.heap.get? b = some o ∧ H' b = none := fun b hb o z =>
          have y := I'.pin (b, o) (List.mem_append_right _ (List.mem_append_right _ (mem_pinsAt hb z)))
          ⟨y.1, y.2.1⟩
        refine ⟨m', hm, i + 1, H', (I'.unpinned (pins := [])).weak hl hk, T.keep _ _ _ st7 fun b hb o z => (pin b hb o z).1, fun b hb => ?_, w'⟩
        obtain ⟨o, z, _⟩ := T.obj _ _ st7 b hb
        exact (pin b hb o z).2
      have l8 : (wipe σ (own.map (·.2))).length = σ8.length := by rw [← hw8, wipe_length]
      have k8 : ∀ (j : Nat) v, (wipe σ (own.map (·.2)))[j]? = some (some v) → σ8[j]? = some (some v) := fun j v z => by
        rw [← hw8] at z
        exact (wipe_some z).1
      have k9 : ∀ (j : Nat) v, (wipe σ (own.map (·.2)))[j]? = some (some v) → (wipe σ8 vs1)[j]? = some (some v) := fun j v z => by
        rw [← hw8] at z
        obtain ⟨z1, z2⟩ := wipe_some z
        rw [wipe_out fun m => z2 (hv j m)]
        exact z1
      cases b with
      | false =>
        simp only [Bool.false_eq_true, if_false] at q9 ⊢
        exact over I9 l8 k8 q9
      | true =>
        simp only [if_true] at q9 ⊢
        refine thnF (j4.run _ s9 σ8 H9 _ I9 q9) fun xv s10 hx => thnF hx fun itv s11 h11 => ?_
        obtain ⟨it1, fp1, tn1, J1, H11, e1, I11, T1, st11, f11, W1, ⟨m1, w1⟩, turn1⟩ := h11
        subst e1
        have own1 : ∀ {H' : Hp}, (∀ b ∈ fp1, H' b = none) → ∀ b ∈ fp1, FpOk (X.blk s3 H3 scope ce fp) ([] ++ pinsAt fp s7.heap) H' b := fun hn b hb => ⟨hn b hb, (f11 b hb).2⟩
        have loop1 : codeAny (model X.prog X.w) X.A (.compLoop (sc2 elt tg iter tg1 iter1 ifs ifs1 scope pos) 1 (.ref it1) (.ref D) ce)
            (fun r s' => match r with
              | .ok _ => ∃ m, m < n ∧ ∃ i H', Inv (X.blk s3 H3 scope ce fp) [] (wipe σ (own.map (·.2))) H' s' ∧ tn i s'.heap ∧ (∀ b ∈ fp, H' b = none) ∧ W i m H'
              | .error _ => False) s11 := by
          refine inner_loop (fun k s' => ∃ j H', Inv (X.blk s3 H3 scope ce fp) ([] ++ pinsAt fp s7.heap) (wipe σ8 vs1) H' s' ∧ tn1 j s'.heap ∧ (∀ b ∈ fp1, H' b = none) ∧ W1 j k H') ?_ m1 ⟨0, H11, I11.weak (wipe_length _ _) (fun j v z => (wipe_some z).1), st11, fun b hb => (f11 b hb).1, w1⟩
          rintro k s12 ⟨j, H12, I12, st12, n12, w12⟩
          rcases turn1 j k H12 w12 with ⟨stop1, nx1⟩ | ⟨go1, Nx1, hNx1, step1⟩
          · refine thnF (T1.done (X.blk s3 H3 scope ce fp) rfl rfl rfl hc j _ s12 (wipe σ8 vs1) H12 (fun _ _ => False) I12 (own1 n12) st12 stop1) fun r s13 ⟨hr, I13⟩ => ?_
            subst hr
            exact over I13 (l8.trans (wipe_length σ8 vs1).symm) k9 nx1
          · refine thnF (T1.item (X.blk s3 H3 scope ce fp) rfl rfl rfl hc j _ s12 (wipe σ8 vs1) H12 (fun _ _ => False) I12 (own1 n12) st12 go1) fun r s13 ⟨u1, hr, h13⟩ => ?_
            subst hr
            refine thnF h13 fun _ s14 ⟨x1, H14, I14, r14, y14, st14, n14⟩ => ?_
            refine thnF (j5.run _ s14 (wipe σ8 vs1) H14 x1 u1 _ (I14.pinned (own1 n14) (T1.obj _ _ st14)) r14 (step1 x1 H14 y14)) fun _ s15 ⟨σ15, H15, I15, hw15, q15⟩ => ?_
            refine thnF (j6.run _ s15 σ15 H15 _ I15 q15) fun b1 s16 ⟨H16, I16, q16⟩ => ?_
            have over1 : ∀ {s' : Shared} {H' : Hp}, Inv (X.blk s3 H3 scope ce fp) (([] ++ pinsAt fp s7.heap) ++ pinsAt fp1 s14.heap) σ15 H' s' → Nx1 H' → ∃ m, m < k ∧ ∃ j H', Inv (X.blk s3 H3 scope ce fp) ([] ++ pinsAt fp s7.heap) (wipe σ8 vs1) H' s' ∧ tn1 j s'.heap ∧ (∀ b ∈ fp1, H' b = none) ∧ W1 j m H' := fun {s' H'} I' nx => by
              obtain ⟨m', hm, w'⟩ := hNx1 H' nx
              have pin : ∀ b ∈ fp1, ∀ o, s14.heap.get? b = some o → s'.heap.get? b = some o ∧ H' b = none := fun b hb o z =>
                have y := I'.pin (b, o) (List.mem_append_right _ (List.mem_append_right _ (mem_pinsAt hb z)))
                ⟨y.1, y.2.1⟩
              refine ⟨m', hm, j + 1, H', I'.unpinned.weak (by rw [← hw15, wipe_length]) (fun j v z => by rw [← hw15] at z; exact (wipe_some z).1), T1.keep _ _ _ st14 fun b hb o z => (pin b hb o z).1, fun b hb => ?_, w'⟩
              obtain ⟨o, z, _⟩ := T1.obj _ _ st14 b hb
              exact (pin b hb o z).2
            cases b1 with
            | false =>
              simp only [Bool.false_eq_true, if_false] at q16 ⊢
              exact over1 I16 q16
            | true =>
              simp only [if_true] at q16 ⊢
              refine thnF (j3.run _ s16 σ15 H16 _ I16 q16) fun z s17 ⟨yv, H17, I17, r17, H18, ad, nx⟩ => ?_
              exact kd.add (X.blk s3 H3 scope ce fp) rfl rfl _ _ _ _ _ _ _ _ _ _ I17 r17 ad fun s18 I18 => over1 I18 nx
        exact inner_start loop1 (T1.self X.A 0 _ _ _ st11 loop1)
  exact codeAny_compStart_set loop (T.self X.A 0 _ _ _ st4 loop)
theorem pe_sc2 {e0 : Addr → HO} {Add : Addr → V → Hp → Hp → Prop} {elt tg iter tg1 iter1 : Expr} {ifs ifs1 : List Expr} {scope : Scope} {own : List (PySem.Str × Nat)} {vs1 : List Nat} {pos : Pos} {wi wi1 : TI} {g g1 : TG} {tt tt1 : TT} {te : TE}
    (kd : SKind X.prog X.w e0 Add) (hc : X.calm = true) (hN : X.N.Nodup) (hi : PI X tg iter wi) (ok : BlkOk X.N X.env.scope scope own) (hv : ∀ i ∈ vs1, i ∈ own.map (·.2))
    (hg : ∀ (s : Shared) (H : Hp) (C : Addr) (cl : List (PySem.Str × Addr)) (fp : List Addr), PG (X.blk s H scope (compEnvC scope cl C X.env) fp) tg g)
    (ht : ∀ (s : Shared) (H : Hp) (C : Addr) (cl : List (PySem.Str × Addr)) (fp : List Addr), PTs (X.blk s H scope (compEnvC scope cl C X.env) fp) ifs tt)
    (hi1 : ∀ (s : Shared) (H : Hp) (C : Addr) (cl : List (PySem.Str × Addr)) (fp : List Addr), PI (X.blk s H scope (compEnvC scope cl C X.env) fp) tg1 iter1 wi1)
    (hg1 : ∀ (s : Shared) (H : Hp) (C : Addr) (cl : List (PySem.Str × Addr)) (fp : List Addr), PG (X.blk s H scope (compEnvC scope cl C X.env) fp) tg1 g1)
    (ht1 : ∀ (s : Shared) (H : Hp) (C : Addr) (cl : List (PySem.Str × Addr)) (fp : List Addr), PTs (X.blk s H scope (compEnvC scope cl C X.env) fp) ifs1 tt1)
    (he : ∀ (s : Shared) (H : Hp) (C : Addr) (cl : List (PySem.Str × Addr)) (fp : List Addr), PE (X.blk s H scope (compEnvC scope cl C X.env) fp) elt te)
    (hs : ∀ x, foldedSetIterable iter X.env x = pure x := by intro _; rfl) (hs1 : ∀ env x, foldedSetIterable iter1 env x = pure x := by intro _ _; rfl) :
    PE X (sc2 elt tg iter tg1 iter1 ifs ifs1 scope pos) (tSc2 e0 Add wi g tt wi1 g1 tt1 te (own.map (·.2)) vs1) := by
  refine ⟨fun pins s σ H Q I h => ?_⟩
  rw [eval_SetComp]
  refine sc2_core kd hc hN I hi ok hv hg ht he hi1 hg1 ht1 hs hs1 h fun D C s' m H' I' q hn f => ⟨m, hn, fun h'' sb => ?_⟩
  obtain ⟨f0, f1, f2, f3, f4, f5⟩ := f
  exact ⟨.ref D, H', I'.turned (t' := s'.toks) (fun b o hb z => (sb.2 b hb).trans z) f0 f1 f3 f4 f5, rfl, q⟩
end
/-- the kind of a set to which nothing is added: it stays the empty set of ints -/
theorem kind0 (P : Program) (w : World) : SKind P w (fun D => SetO w D (fun _ => false) 0) (fun _ _ _ _ => False) where
  new := fun H h => setO_new (by
    refine ⟨_, #[], 0, _, Heap.get?_push_size _ rfl, ⟨rfl, rfl, rfl⟩, rfl, (fun e he => by simp at he), (by simp), (fun k => by simp), (by decide), (by rfl), rfl, List.Pairwise.nil, ?_⟩
    show _ ∨ (!w.params.followText "set-order") = true
    cases w.params.followText "set-order"
    · exact .inr rfl
    · exact .inl rfl)
  add := fun _ _ _ _ _ _ _ _ _ _ _ _ _ _ _ ad _ => ad.elim
end Oh
/-! Set comprehensions of one clause, over any kind of member. -/
namespace Oh
open PySem PySem.Spec PyProof.Rows L2 PpSet
section
variable {X : Cx}
/-- {elt for target in iter if ..} -/
def tSc1 (e0 : Addr → HO) (Add : Addr → V → Hp → Hp → Prop) (wi : TI) (g : TG) (tt : TT) (te : TE) (vs : List Nat) : TE := fun σ H Q => wi σ H fun J H1 => ∀ D, H1 D = none → ∃ W : Nat → Nat → Hp → Prop, (∃ m, W 0 m (upd H1 D (e0 D))) ∧ ∀ i m H, W i m H →
  (J.stop i H ∧ Q (.ref D) H) ∨ (J.go i H ∧ ∃ Nx : Hp → Prop, (∀ H', Nx H' → ∃ m', m' < m ∧ W (i + 1) m' H') ∧ ∀ x H', J.yld i H x H' → g x (wipe σ vs) H' fun σ2 H2 => wipe σ2 vs = wipe σ vs ∧ tt σ2 H2 fun b H3 =>
    if b = true then te σ2 H3 fun y H4 => ∃ H5, Add D y H4 H5 ∧ Nx H5 else Nx H3)
theorem sc1_core {e0 : Addr → HO} {Add : Addr → V → Hp → Hp → Prop} {pins : List (Addr × Obj)} {s : Shared} {σ : L2.St} {H : Hp} {Q : VK} {elt tg iter : Expr} {ifs : List Expr} {scope : Scope} {own : List (PySem.Str × Nat)} {pos pos' : Pos} {wi : TI} {g : TG} {tt : TT} {te : TE} {use : Option (Value → Sem Unit)} {Qf : Value → Shared → Prop}
    (kd : SKind X.prog X.w e0 Add) (hc : X.calm = true) (hN : X.N.Nodup) (I : Inv X pins σ H s) (hi : PI X tg iter wi) (ok : BlkOk X.N X.env.scope scope own)
    (hg : ∀ (s : Shared) (H : Hp) (C : Addr) (cl : List (PySem.Str × Addr)) (fp : List Addr), PG (X.blk s H scope (compEnvC scope cl C X.env) fp) tg g)
    (ht : ∀ (s : Shared) (H : Hp) (C : Addr) (cl : List (PySem.Str × Addr)) (fp : List Addr), PTs (X.blk s H scope (compEnvC scope cl C X.env) fp) ifs tt)
    (he : ∀ (s : Shared) (H : Hp) (C : Addr) (cl : List (PySem.Str × Addr)) (fp : List Addr), PE (X.blk s H scope (compEnvC scope cl C X.env) fp) elt te)
    (hs : ∀ x, foldedSetIterable iter X.env x = pure x) (h : tSc1 e0 Add wi g tt te (own.map (·.2)) σ H Q)
    (hRR : ∀ D C s' m H', Inv X pins σ H' s' → Q (.ref D) H' → s'.heap.Ns C m → FpOk X pins H' C → compPost (model X.prog X.w) X.A X.xe use Qf (.ref D) C (.ok .next) s') :
    wpAny (model X.prog X.w) X.A (comprehension (.SetComp elt [⟨tg, iter, ifs, 0⟩] scope pos) scope X.env pos' (newSet (.type "set")) false (eval iter X.env) use) Qf X.xe s := by
  have closes : ∀ y ∈ scope.names, y.2 = .free → ∃ c, X.env.cells.lookup y.1 = some c := fun y hy e => (ok.free y hy e).elim (fun k => I.ok.has _ (.inl k)) fun k => I.ok.has _ (.inr k)
  refine wpAny_comprehension_free (use := use) rfl hs (closure_ok closes) ok.kind (fun y hy e => by rw [ok.uniq y hy, e]) (thn (hi.run pins s σ H _ I h) fun xv s1 hx => thn hx fun itv s2 h2 => ?_)
  obtain ⟨it, fp, tn, J, H2, e, I2, T, st2, f2, q⟩ := h2
  subst e
  refine newSet_ok (newEnv_comp ?_)
  generalize hD : s2.heap.objs.size = D
  obtain ⟨W, ⟨m0, w0⟩, turn⟩ := q D (I2.hok.fresh (Nat.le_of_eq hD))
  generalize hs3 : ({ s2 with heap := s2.heap.push (setObj X.w) } : Shared) = s3
  have h3 : s3.heap = s2.heap.push (setObj X.w) := by rw [← hs3]
  have I3 : Inv X pins σ (upd H2 D (e0 D)) s3 := by
    rw [← hs3]
    refine I2.laid (t' := s2.toks) (fun b o z => Heap.get?_push_of_some _ z) (Nat.le_of_eq hD) ?_
    rw [← hD]
    exact kd.new _ s2.heap
  have f3 : ∀ b ∈ fp, FpOk X pins (upd H2 D (e0 D)) b ∧ b < s3.heap.objs.size := fun b hb => by
    obtain ⟨o, eo, _⟩ := T.obj _ _ st2 b hb
    have lt : b < s2.heap.objs.size := Heap.lt_size eo
    refine ⟨⟨?_, (f2 b hb).2⟩, by rw [h3, Heap.size_push]; exact Nat.lt_succ_of_lt lt⟩
    rw [upd_ne (by rw [← hD]; exact Nat.ne_of_lt lt)]
    exact (f2 b hb).1
  have st3 : tn 0 s3.heap := T.keep _ _ _ st2 fun b _ o z => by rw [h3]; exact Heap.get?_push_of_some _ z
  have I4 := block_start I3 ok hN f3
  have j1 := hg s3 (upd H2 D (e0 D)) s3.heap.objs.size (cellsFrom (s3.heap.objs.size + 1) scope.names (cloFrom X.env.cells scope.names [])) fp
  have j2 := ht s3 (upd H2 D (e0 D)) s3.heap.objs.size (cellsFrom (s3.heap.objs.size + 1) scope.names (cloFrom X.env.cells scope.names [])) fp
  have j3 := he s3 (upd H2 D (e0 D)) s3.heap.objs.size (cellsFrom (s3.heap.objs.size + 1) scope.names (cloFrom X.env.cells scope.names [])) fp
  show codeAny _ _ (.compStart (.SetComp elt [⟨tg, iter, ifs, 0⟩] scope pos) 0 (.ref it) (.ref D) (compEnvC scope (cellsFrom (s3.heap.objs.size + 1) scope.names (cloFrom X.env.cells scope.names [])) s3.heap.objs.size X.env)) (compPost (model X.prog X.w) X.A X.xe use Qf (.ref D) s3.heap.objs.size) { s3 with heap := pushCells (s3.heap.push { cls := .type "dict", data := .dict #[] }) scope.names }
  have none3 : ∀ b ∈ fp, (upd H2 D (e0 D)) b = none := fun b hb => (f3 b hb).1.1
  generalize hce : compEnvC scope (cellsFrom (s3.heap.objs.size + 1) scope.names (cloFrom X.env.cells scope.names [])) s3.heap.objs.size X.env = ce at I4 j1 j2 j3 ⊢
  have cL : ce.locals = s3.heap.objs.size := by subst hce; rfl
  generalize hH3 : upd H2 D (e0 D) = H3 at I3 I4 j1 j2 j3 w0 none3 f3
  generalize hs4 : ({ s3 with heap := pushCells (s3.heap.push { cls := .type "dict", data := .dict #[] }) scope.names } : Shared) = s4 at I4 ⊢
  have st4 : tn 0 s4.heap := T.keep _ _ _ st3 fun b _ o z => by rw [← hs4]; exact pushCells_keeps _ _ _ _ (Heap.get?_push_of_some _ z)
  have own4 : ∀ {σ' : L2.St} {H' : Hp} {s' : Shared}, Inv (X.blk s3 H3 scope ce fp) [] σ' H' s' → (∀ b ∈ fp, H' b = none) → ∀ b ∈ fp, FpOk (X.blk s3 H3 scope ce fp) [] H' b := fun {σ' H' s'} I' hn b hb =>
    ⟨hn b hb, (I'.ok.exf b hb).1, I'.ok.exfs b hb, .inl hb, fun x c e => (I'.ok.exf b hb).2 x c e, fun p hp => absurd (show p ∈ ([] : List (Addr × Obj)) ++ [] from hp) (by simp)⟩
  have loop : codeAny (model X.prog X.w) X.A (.compLoop (.SetComp elt [⟨tg, iter, ifs, 0⟩] scope pos) 0 (.ref it) (.ref D) ce) (compPost (model X.prog X.w) X.A X.xe use Qf (.ref D) s3.heap.objs.size) s4 := by
    refine compLoopS_any (fun n s' => ∃ i H', Inv (X.blk s3 H3 scope ce fp) [] (wipe σ (own.map (·.2))) H' s' ∧ tn i s'.heap ∧ (∀ b ∈ fp, H' b = none) ∧ W i n H') ?_ m0 ⟨0, H3, I4, st4, none3, w0⟩
    rintro n s5 ⟨i, H5, I5, st5, n5, w5⟩
    rcases turn i n H5 w5 with ⟨stop, qq⟩ | ⟨go, Nx, hNx, step⟩
    · refine thnF (T.done (X.blk s3 H3 scope ce fp) rfl rfl rfl hc i [] s5 _ H5 (fun _ _ => False) I5 (own4 I5 n5) st5 stop) fun r s6 ⟨hr, I6⟩ => ?_
      subst hr
      have I7 : Inv X pins σ H5 s6 := I3.call' (ch := fp) I6.os I6.base I6.hok I6.bare fun b hb => ⟨(f3 b hb).1.2.2.2.1, (f3 b hb).1.2.1, (f3 b hb).1.2.2.2.2.1, (f3 b hb).1.2.2.2.2.2⟩
      have nC : H5 s3.heap.objs.size = none := by
        have z : H5 ce.locals = none := I6.free
        rw [cL] at z
        exact z
      obtain ⟨m, hn, _⟩ := I6.loc
      have hn : s6.heap.Ns ce.locals m := hn
      rw [cL] at hn
      exact hRR D s3.heap.objs.size s6 m H5 I7 qq hn (I3.fpOk (Nat.le_refl _) nC)
    · refine thnF (T.item (X.blk s3 H3 scope ce fp) rfl rfl rfl hc i [] s5 _ H5 (fun _ _ => False) I5 (own4 I5 n5) st5 go) fun r s6 ⟨u, hr, h6⟩ => ?_
      subst hr
      refine thnF h6 fun _ s7 ⟨x, H7, I7, r7, y7, st7, n7⟩ => ?_
      refine thnF (j1.run _ s7 _ H7 x u _ (I7.pinned (own4 I7 n7) (T.obj _ _ st7)) r7 (step x H7 y7)) fun _ s8 ⟨σ8, H8, I8, hw8, q8⟩ => ?_
      refine thnF (j2.run _ s8 σ8 H8 _ I8 q8) fun b s9 ⟨H9, I9, q9⟩ => ?_
      have over : ∀ {s' : Shared} {H' : Hp}, Inv (X.blk s3 H3 scope ce fp) ([] ++ pinsAt fp s7.heap) σ8 H' s' → Nx H' → ∃ m, m < n ∧ ∃ i H', Inv (X.blk s3 H3 scope ce fp) [] (wipe σ (own.map (·.2))) H' s' ∧ tn i s'.heap ∧ (∀ b ∈ fp, H' b = none) ∧ W i m H' := fun {s' H'} I' nx => by
        obtain ⟨m', hm, w'⟩ := hNx H' nx
        have pin : ∀ b ∈ fp, ∀ o, s7.heap.get? b = some o → s'.heap.get? b = some o ∧ H' b = none := fun b hb o z =>
          have y := I'.pin (b, o) (List.mem_append_right _ (List.mem_append_right _ (mem_pinsAt hb z)))
          ⟨y.1, y.2.1⟩
        refine ⟨m', hm, i + 1, H', (I'.unpinned (pins := [])).weak (by rw [← hw8, wipe_length]) (fun j v z => by rw [← hw8] at z; exact (wipe_some z).1), T.keep _ _ _ st7 fun b hb o z => (pin b hb o z).1, fun b hb => ?_, w'⟩
        obtain ⟨o, z, _⟩ := T.obj _ _ st7 b hb
        exact (pin b hb o z).2
      cases b with
      | false =>
        simp only [Bool.false_eq_true, if_false] at q9 ⊢
        exact over I9 q9
      | true =>
        simp only [if_true] at q9 ⊢
        refine thnF (j3.run _ s9 σ8 H9 _ I9 q9) fun z s10 ⟨y, H10, I10, r10, H11, ad, nx⟩ => ?_
        exact kd.add (X.blk s3 H3 scope ce fp) rfl rfl _ _ _ _ _ _ _ _ _ _ I10 r10 ad fun s11 I11 => over I11 nx
  exact codeAny_compStart_set loop (T.self X.A 0 _ _ _ st4 loop)
theorem pe_sc1 {e0 : Addr → HO} {Add : Addr → V → Hp → Hp → Prop} {elt tg iter : Expr} {ifs : List Expr} {scope : Scope} {own : List (PySem.Str × Nat)} {pos : Pos} {wi : TI} {g : TG} {tt : TT} {te : TE} (kd : SKind X.prog X.w e0 Add) (hc : X.calm = true) (hN : X.N.Nodup) (hi : PI X tg iter wi) (ok : BlkOk X.N X.env.scope scope own)
    (hg : ∀ (s : Shared) (H : Hp) (C : Addr) (cl : List (PySem.Str × Addr)) (fp : List Addr), PG (X.blk s H scope (compEnvC scope cl C X.env) fp) tg g)
    (ht : ∀ (s : Shared) (H : Hp) (C : Addr) (cl : List (PySem.Str × Addr)) (fp : List Addr), PTs (X.blk s H scope (compEnvC scope cl C X.env) fp) ifs tt)
    (he : ∀ (s : Shared) (H : Hp) (C : Addr) (cl : List (PySem.Str × Addr)) (fp : List Addr), PE (X.blk s H scope (compEnvC scope cl C X.env) fp) elt te) (hs : ∀ x, foldedSetIterable iter X.env x = pure x := by intro _; rfl) :
    PE X (.SetComp elt [⟨tg, iter, ifs, 0⟩] scope pos) (tSc1 e0 Add wi g tt te (own.map (·.2))) := by
  refine ⟨fun pins s σ H Q I h => ?_⟩
  rw [eval_SetComp]
  refine sc1_core kd hc hN I hi ok hg ht he hs h fun D C s' m H' I' q hn f => ⟨m, hn, fun h'' sb => ?_⟩
  obtain ⟨f0, f1, f2, f3, f4, f5⟩ := f
  exact ⟨.ref D, H', I'.turned (t' := s'.toks) (fun b o hb z => (sb.2 b hb).trans z) f0 f1 f3 f4 f5, rfl, q⟩
end
end Oh
/-! A set of texts whose table can be walked: made, added to, sorted. -/
namespace Tx
open PySem PySem.Spec PyProof.Rows L2 Oh PpSet
def kOf (e : Int × Value) : Str := match e.2 with
  | .str k _ => k
  | _ => Str.empty
def Row (w : World) (e : Int × Value) : Prop := ∃ (k : Str) (u : Tok), e.2 = Value.str k u ∧ e.1 = hashStr w k
/-- the texts at a: S tells which, n how many -/
def SetX (w : World) (h : Heap) (a : Addr) (S : Str → Bool) (n : Nat) : Prop :=
  ∃ (ob : Obj) (rows : Array (Int × Value)) (epo : Nat) (tab : SetTable), h.get? a = some ob ∧ ob.ExactSet ∧ ob.data = .set rows epo tab ∧ ((∀ e ∈ rows.toList, Row w e) ∧ (rows.toList.map kOf).Nodup ∧ ∀ k, S k = true ↔ k ∈ rows.toList.map kOf) ∧
    (rows.size < scanBound ∧ tab.fits rows.size = true ∧ rows.size = n) ∧ Ris tab.place.toList ∧ (w.params.followText "set-order" = true ∨ tab.led = true)
section
variable {P : Program} {w : World} {h h' : Heap} {a : Addr} {S : Str → Bool} {n : Nat}
theorem SetX.keep (R : SetX w h a S n) (k : ∀ ob, h.get? a = some ob → h'.get? a = some ob) : SetX w h' a S n := by
  obtain ⟨ob, rows, epo, tab, oa, rest⟩ := R
  exact ⟨ob, rows, epo, tab, k ob oa, rest⟩
theorem row_is {e : Int × Value} (r : Row w e) (k : Str) : (strKind P w).is k e.2 = true ↔ kOf e = k := by
  obtain ⟨k0, u, e2, _⟩ := r
  unfold kOf
  rw [e2]
  constructor
  · intro z
    exact (strKind P w).inj _ _ _ (strKind_is P w k0 u) z
  · rintro rfl
    exact strKind_is P w k0 u
theorem rows_elems {l : List (Int × Value)} (r : ∀ e ∈ l, Row w e) : ElemsOf (strKind P w) l := by
  intro e me
  obtain ⟨k, u, e2, e1⟩ := r e me
  exact ⟨⟨k, by rw [e2]; exact strKind_is P w k u, e1⟩, by rw [e2]; rfl⟩
theorem rows_mem {l : List (Int × Value)} (r : ∀ e ∈ l, Row w e) (k : Str) : k ∈ l.map kOf ↔ ∃ e ∈ l, (strKind P w).is k e.2 = true := by
  rw [List.mem_map]
  exact ⟨fun ⟨e, me, z⟩ => ⟨e, me, (row_is (r e me) k).mpr z⟩, fun ⟨e, me, z⟩ => ⟨e, me, (row_is (r e me) k).mp z⟩⟩
theorem SetX.setOf (R : SetX w h a S n) : h.SetOf (strKind P w) a S n := by
  obtain ⟨ob, rows, epo, tab, oa, ox, od, ⟨rr, _, rm⟩, ⟨rb, rf, rn⟩, _⟩ := R
  exact ⟨ob, rows, epo, tab, oa, ox, od, rows_elems rr, fun k => (rm k).trans (rows_mem rr k), rb, rf, rn⟩
theorem setX_fresh (w : World) (h : Heap) : SetX w (h.push (setObj w)) h.objs.size (fun _ => false) 0 := by
  refine ⟨_, #[], 0, _, Heap.get?_push_size _ rfl, ⟨rfl, rfl, rfl⟩, rfl, ⟨fun e me => by simp at me, by simp, fun k => by simp⟩, ⟨by decide, by rfl, rfl⟩, List.Pairwise.nil, ?_⟩
  show _ ∨ (!w.params.followText "set-order") = true
  cases w.params.followText "set-order" <;> simp
end
section
variable {P : Program} {w : World} {A : Around} {E : Value → Shared → Prop} {s : Shared} {a : Addr} {S : Str → Bool} {n : Nat}
theorem add_store {g : Bool → Sem Unit} (hg : ∀ (b : Bool) (s1 : Shared) (Z : Unit → Shared → Prop), Z () s1 → wpAny (model P w) A (g b) Z E s1) {ob : Obj} {r0 r1 : Array (Int × Value)} {epo : Nat} {tab tab1 : SetTable} (oa : s.heap.get? a = some ob) (ox : ob.ExactSet) (od : ob.data = .set r0 epo tab)
    {S1 : Str → Bool} (rr : ∀ e ∈ r1.toList, Row w e) (rd : (r1.toList.map kOf).Nodup) (rm : ∀ k, S1 k = true ↔ k ∈ r1.toList.map kOf) (rb : r1.size < scanBound) (rf : tab1.fits r1.size = true) (ri : Ris tab1.place.toList) (rl : w.params.followText "set-order" = true ∨ tab1.led = true)
    {dm : Bool} {Z : Option Bool → Shared → Prop} (hZ : ∀ h1, Heap.SameBut a s.heap h1 → SetX w h1 a S1 r1.size → Z (some true) { s with heap := h1 }) :
    wpAny (model P w) A (do
        storeSet a r1 tab1
        if (!dm && tab1.tooFull) = true then do
            g (relayAll tab1 r1 (SetTable.grown r1.size)).2.2
            storeSet a (relayAll tab1 r1 (SetTable.grown r1.size)).1 (relayAll tab1 r1 (SetTable.grown r1.size)).2.1
            pure (some true)
          else pure (some true)) Z E s := by
  refine wpAny_bind (wpAny_storeSet_of oa od ?_ (fits_of_scanBound rb))
  have oa1 := store_at (es' := r1) (t' := tab1) oa od
  have sb1 := Heap.SameBut.update s.heap a (Obj.putSet r1 tab1)
  split
  · have q1 := relayAll_perm tab1 r1 (SetTable.grown r1.size)
    have q2 := relayAll_fits tab1 r1 (SetTable.grown r1.size)
    have q3 := relayAll_ris tab1 r1 (SetTable.grown r1.size)
    have q4 := relayAll_led tab1 r1 (SetTable.grown r1.size)
    generalize relayAll tab1 r1 (SetTable.grown r1.size) = big at q1 q2 q3 q4 ⊢
    obtain ⟨r2, tab2, gave⟩ := big
    dsimp only at q1 q2 q3 q4 ⊢
    have sz : r2.size = r1.size := by rw [← Array.length_toList, q1.length_eq, Array.length_toList]
    refine wpAny_bind (hg _ _ _ ?_)
    refine wpAny_bind (wpAny_storeSet_of oa1 rfl ?_ (fits_of_scanBound (by rw [sz]; exact rb)))
    have oa2 := store_at (es' := r2) (t' := tab2) oa1 rfl
    refine wpAny_pure (hZ _ (sb1.trans (Heap.SameBut.update _ a _)) ⟨_, r2, _, tab2, oa2, ox, rfl, ⟨fun e me => rr e (q1.mem_iff.mp me), (q1.map kOf).nodup_iff.mpr rd, fun k => (rm k).trans (q1.map kOf).mem_iff.symm⟩, ⟨by rw [sz]; exact rb, q2, sz⟩, q3, ?_⟩)
    rcases rl with z | z
    · exact .inl z
    · exact .inr (q4.trans z)
  · exact wpAny_pure (hZ _ sb1 ⟨_, r1, _, tab1, oa1, ox, rfl, ⟨rr, rd, rm⟩, ⟨rb, rf, rfl⟩, ri, rl⟩)
theorem add_hashed {k : Str} {u : Tok} {Q : Bool → Shared → Prop} (R : SetX w s.heap a S n) (room : n + 1 < scanBound)
    (hQ : ∀ h1, Heap.SameBut a s.heap h1 → SetX w h1 a (fun j => S j || decide (j = k)) (if S k = true then n else n + 1) → Q (!S k) { s with heap := h1 }) :
    wpAny (model P w) A (setAddHashed a (.str k u) ((strKind P w).hash k)) Q E s := by
  obtain ⟨ob, rows, epo, tab, oa, ox, od, ⟨rr, rd, rm⟩, ⟨rb, rf, rn⟩, ri, rl⟩ := R
  have isk : (strKind P w).is k (.str k u) = true := strKind_is P w k u
  have sc : (Value.str k u).scannable = true := rfl
  have els : ElemsOf (strKind P w) rows.toList := rows_elems rr
  unfold setAddHashed setAddHashedIn
  refine wpAny_holding (wpAny_bind (wpAny_setState_of oa od rf ?_))
  dsimp only
  rw [byScan_of sc rb els]
  simp only [↓reduceIte]
  unfold setAddByScan
  refine wpAny_bind (wpAny_bind (wpAny_rule (wpAny_bind (wpAny_setScan_of isk oa od rf els ?_))))
  cases fd : List.findIdx? (fun e => (strKind P w).is k e.2) rows.toList with
  | some j =>
    dsimp only
    obtain ⟨lj, pj, _⟩ := List.findIdx?_eq_some_iff_getElem.mp fd
    have has : S k = true := (rm k).mpr ((rows_mem (P := P) rr k).mpr ⟨rows.toList[j], List.getElem_mem lj, pj⟩)
    have q := hQ s.heap (Heap.SameBut.refl a s.heap) ⟨ob, rows, epo, tab, oa, ox, od, ⟨rr, rd, fun i => by
      rw [Bool.or_eq_true, decide_eq_true_eq, ← rm i]
      exact ⟨fun z => z.elim id (fun e => e ▸ has), .inl⟩⟩, ⟨rb, rf, by rw [if_pos has]; exact rn⟩, ri, rl⟩
    rw [has] at q
    exact wpAny_pure (wpAny_pure q)
  | none =>
    dsimp only
    have nk : k ∉ rows.toList.map kOf := fun z => by
      obtain ⟨e, me, q⟩ := (rows_mem (P := P) rr k).mp z
      have c := List.findIdx?_eq_none_iff.mp fd e me
      rw [q] at c
      cases c
    have no : S k = false := by
      cases q : S k with
      | false => rfl
      | true => exact absurd ((rm k).mp q) nk
    have gw : ∀ (b : Bool) {s1 : Shared} {Z : Unit → Shared → Prop}, Z () s1 → wpAny (model P w) A (match b with | true => rule "set.scan.the-table-gave-way" | false => pure ()) Z E s1 := by
      intro b s1 Z z
      cases b
      · exact wpAny_pure z
      · exact wpAny_rule z
    have l1 := layNew_perm tab rows ((strKind P w).hash k) (.str k u)
    have l2 := layNew_fits tab rows ((strKind P w).hash k) (.str k u)
    have l3 := layNew_ris tab rows ((strKind P w).hash k) (.str k u) ri
    have l4 := layNew_led tab rows ((strKind P w).hash k) (.str k u)
    generalize layNew tab rows ((strKind P w).hash k) (.str k u) = big at l1 l2 l3 l4 ⊢
    obtain ⟨r1, tab1, dm, gave⟩ := big
    dsimp only at l1 l2 l3 l4 ⊢
    rw [Array.toList_push] at l1
    have pc : r1.toList.Perm (((strKind P w).hash k, Value.str k u) :: rows.toList) := l1.trans (List.perm_append_singleton _ _)
    have pk : (r1.toList.map kOf).Perm (k :: rows.toList.map kOf) := pc.map kOf
    have rr1 : ∀ e ∈ r1.toList, Row w e := by
      intro e me
      rcases List.mem_cons.mp (pc.mem_iff.mp me) with z | z
      · rw [z]
        exact ⟨k, u, rfl, rfl⟩
      · exact rr e z
    have rd1 : (r1.toList.map kOf).Nodup := pk.nodup_iff.mpr (List.nodup_cons.mpr ⟨nk, rd⟩)
    have rm1 : ∀ i, (S i || decide (i = k)) = true ↔ i ∈ r1.toList.map kOf := by
      intro i
      rw [Bool.or_eq_true, decide_eq_true_eq, rm i, pk.mem_iff, List.mem_cons]
      exact Or.comm
    have sz : r1.size = n + 1 := by rw [← Array.length_toList, pc.length_eq, List.length_cons, Array.length_toList, rn]
    have rb1 : r1.size < scanBound := by rw [sz]; exact room
    have rl1 : w.params.followText "set-order" = true ∨ tab1.led = true := by
      rcases rl with z | z
      · exact .inl z
      · exact .inr (l4.trans z)
    have fin : ∀ h1, Heap.SameBut a s.heap h1 → SetX w h1 a (fun j => S j || decide (j = k)) r1.size → Q true { s with heap := h1 } := by
      intro h1 sb z
      have q := hQ h1 sb
      rw [no] at q
      rw [sz] at z
      exact q z
    refine wpAny_bind (gw _ ?_)
    split
    · refine wpAny_bind ?_
      rw [hashByValue_scannable 8 sc]
      refine wpAny_pure (add_store (fun b s1 Z z => by cases b <;> first | exact wpAny_pure z | exact wpAny_rule z) oa ox od rr1 rd1 rm1 rb1 ?_ ?_ ?_ ?_)
      · first | exact l2 | (split <;> first | exact l2 | exact SetTable.fits_plain_off l2)
      · first | exact l3 | (split <;> exact l3)
      · first | exact rl1 | (split <;> exact rl1)
      · intro h1 sb z
        dsimp only
        exact wpAny_pure (fin h1 sb z)
    · refine wpAny_bind (wpAny_pure ?_)
      simp only [↓reduceIte]
      refine add_store (fun b s1 Z z => by cases b <;> first | exact wpAny_pure z | exact wpAny_rule z) oa ox od rr1 rd1 rm1 rb1 l2 l3 rl1 ?_
      intro h1 sb z
      dsimp only
      exact wpAny_pure (fin h1 sb z)
/-- found.add(k), the method as the comprehension calls it -/
theorem add_call {k : Str} {u : Tok} {Q : Value → Shared → Prop} (R : SetX w s.heap a S n) (room : n + 1 < scanBound)
    (hQ : ∀ h1, Heap.SameBut a s.heap h1 → SetX w h1 a (fun j => S j || decide (j = k)) (if S k = true then n else n + 1) → Q .none { s with heap := h1, toks := s.toks + 1 }) :
    wpAny (model P w) A (call (.builtin "set.add") [.ref a, .str k u]) Q E s := by
  have so : s.heap.SetOf (strKind P w) a S n := R.setOf
  refine wpAny_call_entry F.slot_set_add so.typeIs F.entry_set_add ?_ (F.args_set_add_2 _ _)
  unfold Builtin.«set.add» Builtin.Frozenset.oneOther
  simp only [List.isEmpty_nil, bind_assoc]
  unfold Builtin.Frozenset.addrOf setAdd
  refine wpAny_bind (wpAny_pure ?_)
  try dsimp only
  refine wpAny_bind (wpAny_pure ?_)
  try dsimp only
  refine wpAny_bind (wpAny_holding (wpAny_bind ((strKind P w).pyHash (strKind_is P w k u) ?_)))
  refine add_hashed (s := { s with toks := s.toks + 1 }) R room fun h1 sb z => ?_
  show wpAny _ _ (ret Value.none) _ _ _
  exact wpAny_pure ⟨_, rfl, hQ h1 sb z⟩
theorem strs_of : ∀ (l : List Value), (∀ v ∈ l, ∃ (k : Str) (u : Tok), v = Value.str k u) → ∃ ks, StrsAre l ks ∧ ks = l.map fun v => kOf (0, v)
  | [], _ => ⟨[], .nil, rfl⟩
  | v :: l, m => by
    obtain ⟨k, u, rfl⟩ := m v List.mem_cons_self
    obtain ⟨ks, h1, h2⟩ := strs_of l fun x mx => m x (List.mem_cons_of_mem _ mx)
    exact ⟨k :: ks, .cons k u h1, by rw [h2]; rfl⟩
/-- sorted(found), fewer than 64 texts -/
theorem sorted_call {Q : Value → Shared → Prop} (R : SetX w s.heap a S n) (hh : A.handled = none) (lt : n < 64)
    (hQ : ∀ s' p (out : Array Value) (c : Nat) (ys : List Str), (∀ b ob, s.heap.get? b = some ob → s'.heap.get? b = some ob) → s'.gens = s.gens → s'.os = s.os → s.heap.objs.size ≤ p →
      s'.heap.get? p = some (seqObj "list" out c) → StrsAre out.toList ys → sortedS ys = true → ys.Nodup → (∀ k, k ∈ ys ↔ S k = true) → ys.length = n → Q (.ref p) s') : wpAny (model P w) A (call (.builtin "sorted") [.ref a]) Q E s := by
  obtain ⟨ob, rows, epo, tab, oa, ox, od, ⟨rr, rd, rm⟩, ⟨rb, rf, rn⟩, ri, rl⟩ := R
  refine Calls.call_function_entry kind_sorted plain_sorted entry_sorted (args_sorted1 _) ?_
  unfold Builtin.«sorted»
  refine wpAny_bind (m := checkCount "sorted" 1 1 _) (wpAny_pure ?_)
  refine wpAny_bind (collect_set (A := A.in1) hh ⟨ob, oa, ox.1, od⟩ rf rb ri rl fun s1 vs k1 z1 g1 o1 pm => ?_)
  have lv : vs.length = n := by rw [pm.length_eq, List.length_map, Array.length_toList]; exact rn
  obtain ⟨ks, sk, ek⟩ := strs_of vs fun v mv => by
    obtain ⟨e, me, q⟩ := List.mem_map.mp (pm.mem_iff.mp mv)
    obtain ⟨k, u, e2, _⟩ := rr e me
    exact ⟨k, u, by rw [← q]; exact e2⟩
  have pk : ks.Perm (rows.toList.map kOf) := by
    rw [ek]
    have q := pm.map fun v => kOf (0, v)
    rw [List.map_map] at q
    exact q
  refine wpAny_bind (wpAny_newList ?_ (by rw [lv, sizeLine_eq]; omega))
  have oL : (s1.heap.push (seqObj "list" vs.toArray 0)).get? s1.heap.objs.size = some (seqObj "list" vs.toArray 0) := Heap.get?_push_size _ rfl
  refine wpAny_bind (wpAny_holding (wpAny_call_entry slot_list_sort ⟨_, oL, rfl⟩ entry_list_sort
    (list_sort_treeK strKind_oneLt oL sk.keysOf (fun v1 v2 rest e => keyKind_strs (by rw [← e]; exact sk)) (by rw [lv]; exact lt) fun st hp hs => ⟨_, rfl, ?_⟩) (args_list_sort _)))
  obtain ⟨ys, y1, y2, y3⟩ := sorted_out_str sk hp hs
  obtain ⟨c, hc⟩ := sortedHeap_at (vs := vs) (out := (arrOf st).map (·.2)) oL
  have py : ys.Perm (rows.toList.map kOf) := y2.trans pk
  refine wpAny_pure ⟨_, rfl, hQ _ s1.heap.objs.size ((arrOf st).map (·.2)) c ys (fun b u e => ?_) g1 o1 z1 hc y1 y3 (py.nodup_iff.mpr rd) (fun k => by rw [py.mem_iff, ← rm k]) ?_⟩
  · have q := k1 b u e
    have lb := Heap.lt_size q
    show (sortedHeap (s1.heap.push (seqObj "list" vs.toArray 0)) s1.heap.objs.size vs ((arrOf st).map (·.2))).get? b = some u
    rw [sortedHeap_old (Nat.ne_of_lt lb) (by rw [size_push']; exact Nat.lt_succ_of_lt lb)]
    exact Heap.get?_push_of_some _ q
  · rw [py.length_eq, List.length_map, Array.length_toList]
    exact rn
end
end Tx
/-! A set of texts among the tracked objects. -/
namespace Oh
open PySem PySem.Spec PyProof.Rows L2 Tx
def SetTO (w : World) (a : Addr) (S : Str → Bool) (n : Nat) : HO := .ext fun h => SetX w h a S n
theorem setT_new {w : World} {P : Program} {H : Hp} {h : Heap} {a : Addr} {S : Str → Bool} {n : Nat} (R : SetX w h a S n) : ObjOk P w H h a (SetTO w a S n) := by
  have ⟨ob, _, _, _, oa, _⟩ := R
  exact ⟨R, ⟨ob, oa⟩, fun _ _ z k => SetX.keep z k⟩
section
variable {X : Cx}
theorem setT_get {pins : List (Addr × Obj)} {σ : L2.St} {H : Hp} {s : Shared} {a : Addr} {S : Str → Bool} {n : Nat} (I : Inv X pins σ H s) (ha : H a = some (SetTO X.w a S n)) : SetX X.w s.heap a S n := (I.hok a _ ha).1
/-- one text more -/
def AddT (w : World) : Addr → V → Hp → Hp → Prop := fun D y H H' => ∃ (k : Str) (S : Str → Bool) (n : Nat), y = .str k ∧ H D = some (SetTO w D S n) ∧ n + 1 < scanBound ∧ H' = upd H D (SetTO w D (fun j => S j || decide (j = k)) (if S k = true then n else n + 1))
theorem kindT (P : Program) (w : World) : SKind P w (fun D => SetTO w D (fun _ => false) 0) (AddT w) where
  new := fun H h => setT_new (setX_fresh w h)
  add := by
    rintro X rfl rfl pins σ H H' s E D y u Q I ry ⟨k, S, n, rfl, hD, room, rfl⟩ q
    obtain ⟨t, rfl⟩ := (show ∃ t, u = Value.str k t from ry)
    refine add_call (setT_get I hD) room fun h1 sb new => ?_
    have there : ∃ ob, h1.get? D = some ob := by
      have ⟨ob, _, _, _, oa, _⟩ := new
      exact ⟨ob, oa⟩
    exact q _ (I.write (e := D) (t' := s.toks + 1) (by rw [hD]; trivial) (.inl rfl) (fun b ob hb hu => (sb.2 b hb).trans hu) there (setT_new new))
/-- sorted(a set of fewer than 64 texts) -/
def rSortedT (w : World) : List V → Hp → VK → Prop := fun vs H Q => ∃ (a : Addr) (S : Str → Bool) (n : Nat), vs = [V.ref a] ∧ H a = some (SetTO w a S n) ∧ n < 64 ∧
  ∀ (ys : List Str) (p : Addr), sortedS ys = true → ys.Nodup → (∀ k, k ∈ ys ↔ S k = true) → ys.length = n → H p = none → Q (.ref p) (upd H p (.lst (ys.map V.str)))
theorem cr_sortedT (hc : X.calm = true) : CallR X (.builtin "sorted") (rSortedT X.w) := by
  intro pins s σ H vs us Q I r h
  obtain ⟨a, S, n, rfl, ha, lt, q⟩ := h
  rw [Vals.ref1 r]
  refine sorted_call (setT_get I ha) (I.ok.hd hc) lt fun s' p out c ys k g o hp hg sy y1 nd hm hl => ?_
  have hlen : (ys.map V.str).length ≤ sizeLine := by rw [List.length_map, hl, sizeLine_eq]; omega
  have hn : H p = none := I.hok.fresh hp
  have J : Inv X pins σ (upd H p (.lst (ys.map V.str))) { s with heap := s'.heap, gens := s'.gens, drawn := s'.drawn, toks := s'.toks } :=
    I.call (ch := []) (Un.laid k hp hn) (I.hok.laid k hp ⟨hlen, out.toList, c, vals_of_strs sy, hg⟩) (by rw [g]; exact I.bare) (fun _ z => nomatch z)
  have e : s' = { s with heap := s'.heap, gens := s'.gens, drawn := s'.drawn, toks := s'.toks } := by
    cases s'
    cases s
    cases o
    rfl
  rw [e]
  exact ⟨.ref p, _, J, rfl, q ys p y1 nd hm hl hn⟩
end
end Oh
namespace Oh
open PySem PySem.Spec PyProof.Rows L2 PpSet
theorem call_lenT {X : Cx} : CallR X (.builtin "len") (fun xs H Q => ∃ (a : Addr) (S : Str → Bool) (n : Nat), xs = [.ref a] ∧ H a = some (SetTO X.w a S n) ∧ Q (.int n) H) := by
  intro pins s σ H xs us Q I r h
  obtain ⟨a, S, n, rfl, ha, q⟩ := h
  rw [Vals.ref1 r]
  obtain ⟨ob, rows, epo, tab, oa, ox, od, _, ⟨rb, rf, rn⟩, _⟩ := setT_get I ha
  have small : (rows.size : Int) < 2 ^ 63 := by
    have h1 : rows.size < scanBound := rb
    have h2 : scanBound ≤ 2 ^ 62 := by decide
    omega
  exact call_len_set oa ox od rf small ⟨.int n, H, (I.tok _).tok _, ⟨_, by rw [rn]⟩, q⟩
theorem sc1_it {e0 : Addr → HO} {Add : Addr → V → Hp → Hp → Prop} {J : It} {n : Nat} {G : Hp → Prop} {Y : Nat → Hp → V → Hp → Prop} (w : Walk J n G Y) {g : TG} {tt : TT} {te : TE} {vs : List Nat} {σ : L2.St} {H1 : Hp} {D : Addr} {Qd : Hp → Prop} (Pv : Nat → Hp → Prop) (h0 : Pv 0 (upd H1 D (e0 D)))
    (hG : ∀ i H, i ≤ n → Pv i H → G H) (hs : ∀ i x H H', i < n → Pv i H → Y i H x H' → g x (wipe σ vs) H' fun σ2 H2 => wipe σ2 vs = wipe σ vs ∧ tt σ2 H2 fun b H3 => if b = true then te σ2 H3 fun y H4 => ∃ H5, Add D y H4 H5 ∧ Pv (i + 1) H5 else Pv (i + 1) H3) (hd : ∀ H, Pv n H → Qd H) :
    ∃ W : Nat → Nat → Hp → Prop, (∃ m, W 0 m (upd H1 D (e0 D))) ∧ ∀ i m H, W i m H → (J.stop i H ∧ Qd H) ∨ (J.go i H ∧ ∃ Nx : Hp → Prop, (∀ H', Nx H' → ∃ m', m' < m ∧ W (i + 1) m' H') ∧ ∀ x H', J.yld i H x H' → g x (wipe σ vs) H' fun σ2 H2 => wipe σ2 vs = wipe σ vs ∧ tt σ2 H2 fun b H3 =>
      if b = true then te σ2 H3 fun y H4 => ∃ H5, Add D y H4 H5 ∧ Nx H5 else Nx H3) := by
  refine ⟨fun i m H => m = n - i ∧ i ≤ n ∧ Pv i H, ⟨n, by simp, Nat.zero_le _, h0⟩, ?_⟩
  rintro i m H ⟨rfl, hi, p⟩
  have q := hG i H hi p
  by_cases hlt : i < n
  · exact .inr ⟨w.goes i H hlt q, Pv (i + 1), fun H' p' => ⟨n - (i + 1), by omega, rfl, hlt, p'⟩, fun x H' y => hs i x H H' hlt p (w.yields i H x H' hlt q y)⟩
  · have e : i = n := by omega
    subst e
    exact .inl ⟨w.stops H q, hd H p⟩
theorem row_inv {d : DT} (h : rowB d = true) : ∃ l s, d = .tup l ∧ l[0]? = some (.str s) ∧ portB d = s := by
  unfold rowB at h
  obtain ⟨h1, h⟩ := Bool.and_eq_true_iff.mp h
  obtain ⟨h2, h⟩ := Bool.and_eq_true_iff.mp h
  cases d with
  | tup l =>
    have hl : l.length = 3 := beq_iff_eq.mp h1
    match l, hl with
    | [a, b, c], _ =>
      cases a with
      | str s => exact ⟨_, s, rfl, rfl, rfl⟩
      | _ => cases h2
  | _ => cases h1
/-- the texts told apart -/
theorem nodup_snoc {l : List Str} {k : Str} : (l ++ [k]).Nodup ↔ l.Nodup ∧ k ∉ l := by
  rw [List.nodup_append]
  constructor
  · rintro ⟨h1, _, h3⟩
    exact ⟨h1, fun m => h3 k m k (List.mem_singleton.mpr rfl) rfl⟩
  · rintro ⟨h1, h2⟩
    refine ⟨h1, by simp, fun a ma b mb e => ?_⟩
    rw [List.mem_singleton] at mb
    exact h2 (mb ▸ e ▸ ma)
section
variable {P : Program} {w : World} {K : PySem.W.Frag} {mg : Str → Option Value} {base : Heap} {kw pk ck : Addr}
theorem scIsRow : FnScope ["value"] ["value"] (defScope sIsRow) := ⟨rfl, rfl, rfl, by decide +kernel, rfl, by decide +kernel, by decide +kernel⟩
theorem ok_isRow {f fN fB : Addr} {fd fdN fdB : FuncData} (F : Fun K "_is_row" "_is_row" sIsRow f fd) (T : TxtF K mg kw)
    (GN : FnOk P w K mg base CX0 1 fN fdN ["value"] (spB K nameB)) (kN : PySem.W.keepIn K (.ref fN) = true) (bN : Binds K fdN ["value"] []) (mN : mg "is_name" = some (.ref fN))
    (GB : FnOk P w K mg base CX0 1 fB fdB ["value"] (spB K blockB)) (kB : PySem.W.keepIn K (.ref fB) = true) (bB : Binds K fdB ["value"] []) (mB : mg "is_block" = some (.ref fB)) : FnOk P w K mg base CX0 2 f fd ["value"] (spB K rowB) := by
  refine F.ok scIsRow (fun vs H Q E h => ?_) (fun cdv A outer s H vs Q E hr h => ?_)
  · obtain ⟨v, d, rfl, _⟩ := h
    rfl
  · obtain ⟨v, d, rfl, r, k⟩ := h
    have k0 := k H (Same.refl H)
    obtain ⟨t1, y1, z1⟩ := isi_of r (.inr (.inr (.inr rfl)))
    refine ⟨_, pss_cons (ps_if (pw_or (pt_not (pt_val (pe_isi (pv 0) mono_var T.isi T.tuple bb_tuple))) (pw_or1 (pt_cmpR op_ne (pe_callB call_len_seq (by rfl) T.len boot_len (pa_cons (pv 0) pa_nil)) pe_int (nomark _)))).pt (pss_one (ps_ret pe_bl)) pss_nil)
      (pss_one (ps_ret (pe_and (pe_call GN hr (by rfl) mN kN bN .nil pass0 (pa_cons (pe_ix ix_tup (pv 0) pe_int (fun _ _ => rfl)) pa_nil)) (pe_and (pe_call GN hr (by rfl) mN kN bN .nil pass0 (pa_cons (pe_ix ix_tup (pv 0) pe_int (fun _ _ => rfl)) pa_nil))
        (pe_one (pe_call GB hr (by rfl) mB kB bB .nil pass0 (pa_cons (pe_ix ix_tup (pv 0) pe_int (fun _ _ => rfl)) pa_nil))))))), ?_⟩
    refine ⟨_, rfl, t1, _, y1, z1, _, rfl, ?_⟩
    cases hb : isB d "tuple" with
    | false =>
      have e : rowB d = false := by cases d <;> first | rfl | cases hb
      rw [e] at k0
      exact iteT k0
    | true =>
      refine iteF ?_
      obtain ⟨l, rfl⟩ := isTup hb
      obtain ⟨p, xs, rfl, hp, ra⟩ := r.tup_inv
      have hl := ra.len
      refine ⟨_, rfl, p, xs, rfl, .inr (SqT.of hp), rfl, _, rfl, ?_⟩
      show if (!decide (V.int xs.length = V.int 3)) = true then _ else _
      by_cases c : xs.length = 3
      · rw [decide_eq_true (show V.int xs.length = V.int 3 by rw [c]; rfl)]
        refine iteF ?_
        have e1 : rowB (.tup l) = (nameB (argB (.tup l) 0) && (nameB (argB (.tup l) 1) && blockB (argB (.tup l) 2))) := by
          show ((l.length == 3) && _) = _
          rw [← hl, c]
          rfl
        obtain ⟨v0, x0, r0⟩ := arg_at (i := 0) ra (by omega)
        obtain ⟨v1, x1, r1⟩ := arg_at (i := 1) ra (by omega)
        obtain ⟨v2, x2, r2⟩ := arg_at (i := 2) ra (by omega)
        refine ⟨_, rfl, p, _, _, _, rfl, rfl, SqT.of hp, at_of (j := 0) rfl x0, v0, _, rfl, r0, fun H1 s1 => ⟨_, rfl, ?_⟩⟩
        rw [e1] at k
        cases hb : nameB (argB (.tup l) 0) with
        | false =>
          rw [hb, Bool.false_and] at k
          exact iteF (k H1 s1)
        | true =>
          rw [hb, Bool.true_and] at k
          refine iteT ⟨_, rfl, p, _, _, _, rfl, rfl, SqT.of (s1 _ _ hp), at_of (j := 1) rfl x1, v1, _, rfl, r1.keep s1, fun H2 s2 => ⟨_, rfl, ?_⟩⟩
          have s12 := s1.trans s2
          cases hc : nameB (argB (.tup l) 1) with
          | false =>
            rw [hc, Bool.false_and] at k
            exact iteF (k H2 s12)
          | true =>
            rw [hc, Bool.true_and] at k
            exact iteT ⟨_, rfl, p, _, _, _, rfl, rfl, SqT.of (s12 _ _ hp), at_of (j := 2) rfl x2, v2, _, rfl, r2.keep s12, fun H3 s3 => k H3 (s12.trans s3)⟩
      · rw [decide_eq_false (fun z => c (by have := V.int.inj z; omega))]
        have e1 : rowB (.tup l) = false := by
          show ((l.length == 3) && _) = _
          rw [← hl, beq_eq_false_iff_ne.mpr c, Bool.false_and]
        rw [e1] at k0
        exact iteT k0
abbrev nWa : List Str := ["value", "rows", "row"]
theorem scIsWait : FnScope nWa ["value"] (defScope sIsWait) := ⟨rfl, rfl, rfl, by decide +kernel, rfl, by decide +kernel, by decide +kernel⟩
theorem ok_isWait {f fC fR : Addr} {fd fdC fdR : FuncData} (F : Fun K "_is_wait" "_is_wait" sIsWait f fd) (T : TxtF K mg kw)
    (GC : FnOk P w K mg base CX0 1 fC fdC ["value"] (spB K choiceB)) (kC : PySem.W.keepIn K (.ref fC) = true) (bC : Binds K fdC ["value"] []) (mC : mg "_is_choice" = some (.ref fC))
    (GR : FnOk P w K mg base CX0 2 fR fdR ["value"] (spB K rowB)) (kR : PySem.W.keepIn K (.ref fR) = true) (bR : Binds K fdR ["value"] []) (mR : mg "_is_row" = some (.ref fR)) : FnOk P w K mg base CX0 8 f fd ["value"] (spT K waitB) := by
  refine F.ok scIsWait (fun vs H Q E h => ?_) (fun cdv A outer s H vs Q E hr h => ?_)
  · obtain ⟨v, l, rfl, _⟩ := h
    rfl
  · obtain ⟨v, l, rfl, r, k⟩ := h
    have hr1 : Room 1 _ := hr.mono (by decide)
    have hr2 : Room 2 _ := hr.mono (by decide)
    obtain ⟨p, xs, rfl, hp, ra⟩ := r.tup_inv
    have hl := ra.len
    refine ⟨_, pss_cons (ps_if (pw_or (pt_cmpR op_ne (pe_callB call_len_seq (by rfl) T.len boot_len (pa_cons (pv 0) pa_nil)) pe_int (nomark _)) (pw_or1 (pt_not (pt_val (pe_call GC hr1 (by rfl) mC kC bC .nil pass0 (pa_cons (pe_ix ix_tup (pv 0) pe_int (fun _ _ => rfl)) pa_nil)))))).pt (pss_one (ps_ret pe_bl)) pss_nil)
      (pss_cons (ps_set (i := 1) scIsWait.nd rfl (Or.inl rfl) (pe_ix ix_tup (pv 0) pe_int (fun _ _ => rfl)))
      (pss_one (ps_ret (pe_and (pe_callB (cr_all rfl) (by rfl) T.all boot_allO (pa_cons
        (pe_lc (own := [("row", 2)]) (g := gName 2) (tt := tYes) rfl scIsWait.nd (pi_tup (pv 1)) (blkOk_by (N := nWa) (sc := defScope sIsWait) (by decide +kernel)) (fun _ _ _ _ _ => pg_name (i := 2) scIsWait.nd rfl (Or.inl rfl)) (fun _ _ _ _ _ => pts_nil)
          (fun _ _ _ _ _ => pe_call GR hr2 (by rfl) mR kR bR .nil pass0 (pa_cons (pv 2) pa_nil))) pa_nil))
        (pe_one (pe_cmpR op_eq (pe_callB call_lenT (by rfl) T.len boot_len (pa_cons
          (pe_sc1 (own := [("row", 2)]) (g := gName 2) (tt := tYes) (te := tOp (rIxT K) (tVar 2) (tC (.int 0))) (kindT P w) rfl scIsWait.nd (pi_tup (pv 1)) (blkOk_by (N := nWa) (sc := defScope sIsWait) (by decide +kernel)) (fun _ _ _ _ _ => pg_name (i := 2) scIsWait.nd rfl (Or.inl rfl)) (fun _ _ _ _ _ => pts_nil)
            (fun _ _ _ _ _ => pe_ix ix_tup (pv 2) pe_int (fun _ _ => rfl))) pa_nil)) (pe_callB call_len_seq (by rfl) T.len boot_len (pa_cons (pv 1) pa_nil)) (nomark _))))))), ?_⟩
    refine ⟨_, rfl, p, xs, rfl, .inr (SqT.of hp), rfl, _, rfl, ?_⟩
    show if (!decide (V.int xs.length = V.int 2)) = true then _ else _
    by_cases c : xs.length = 2
    · rw [decide_eq_true (show V.int xs.length = V.int 2 by rw [c]; rfl)]
      refine iteF ?_
      have e1 : waitB (.tup l) = (choiceB (argB (.tup l) 1) && (((listB (argB (.tup l) 1)).map rowB).all id && decide ((listB (argB (.tup l) 1)).map portB).Nodup)) := by
        show ((l.length == 2) && _) = _
        rw [← hl, c]
        rfl
      obtain ⟨v1, x1, r1⟩ := arg_at (i := 1) ra (by omega)
      refine ⟨_, rfl, p, _, _, _, rfl, rfl, SqT.of hp, at_of (j := 1) rfl x1, v1, _, rfl, r1, fun H1 s1 => ⟨_, rfl, ?_⟩⟩
      rw [e1] at k
      cases hb : choiceB (argB (.tup l) 1) with
      | false =>
        rw [hb, Bool.false_and] at k
        exact iteT (k H1 s1)
      | true =>
        refine iteF ?_
        obtain ⟨m, em, lm⟩ := choice_inv hb
        rw [hb, Bool.true_and, em] at k
        rw [em] at r1
        obtain ⟨q, ys, rfl, hq, rm⟩ := (r1.keep s1).tup_inv
        have lym := rm.len
        refine ⟨_, rfl, p, _, _, _, rfl, rfl, SqT.of (s1 _ _ hp), at_of (j := 1) rfl x1, ?_⟩
        refine ⟨_, rfl, q, rfl, ⟨_, SqT.of hq⟩, fun D nD => lc_it (walk_tup (xs := ys)) (fun i H' => Same H1 H' ∧ H' D = some (.lst (((m.map rowB).take i).map V.bl))) ⟨Same.new nD, upd_same⟩ (fun i H' _ z => SqT.of (z.1 _ _ hq)) ?_ ?_⟩
        · rintro i x Ha Hb hi ⟨sa, da⟩ ⟨e, ex⟩
          subst e
          have li : i < m.length := by rw [← lym]; exact hi
          obtain ⟨vi, ev, rv⟩ := rm.get (i := i) (d := m[i]) (List.getElem?_eq_getElem li)
          obtain rfl := Option.some.inj (ev.symm.trans ex)
          have lc : (m.map rowB)[i]? = some (rowB m[i]) := by rw [List.getElem?_map, List.getElem?_eq_getElem li]; rfl
          refine ⟨rfl, _, rfl, vi, m[i], rfl, rv.keep sa, fun Hc sc => ⟨_, sc _ _ da, ?_, fun b o e => ?_, ?_⟩⟩
          · rw [List.length_map, List.length_take, List.length_map]
            exact Nat.lt_of_le_of_lt (Nat.min_le_right _ _) (Nat.lt_of_le_of_lt lm (by decide))
          · rw [upd_ne (ne_of_none e nD)]
            exact sc _ _ (sa _ _ e)
          · rw [upd_same, List.take_add_one, lc]
            simp
        · rintro H2 ⟨s2, d2⟩
          refine ⟨D, m.map rowB, rfl, SqL.of ?_, _, rfl, ?_⟩
          · rw [d2, List.take_of_length_le]
            rw [List.length_map, lym]
            exact Nat.le_refl _
          have s12 := s1.trans s2
          cases ha : ((m.map rowB).all id) with
          | false =>
            have k2 := k H2 s12
            rw [show listB (.tup m) = m from rfl, ha, Bool.false_and] at k2
            exact iteF k2
          | true =>
            rw [show listB (.tup m) = m from rfl, ha, Bool.true_and] at k
            refine iteT ?_
            have rows : ∀ d ∈ m, rowB d = true := fun d md => List.all_eq_true.mp ha _ (List.mem_map_of_mem md)
            have hq2 := s2 _ _ hq
            have rm2 := rm.keep s2
            refine ⟨_, rfl, q, rfl, ⟨_, SqT.of hq2⟩, fun D2 nD2 => sc1_it (walk_tup (xs := ys)) (fun i H' => Same H2 H' ∧ ∃ n, H' D2 = some (SetTO w D2 (fun k => decide (k ∈ (m.map portB).take i)) n) ∧ n ≤ i ∧ (n = i ↔ ((m.map portB).take i).Nodup)) ⟨Same.new nD2, 0, (by rw [upd_same]), Nat.le_refl _, (by simp)⟩ (fun i H' _ z => SqT.of (z.1 _ _ hq2)) ?_ ?_⟩
            · rintro i x Ha Hb hi ⟨sa, n, da, ln, nn⟩ ⟨e, ex⟩
              subst e
              have li : i < m.length := by rw [← lym]; exact hi
              obtain ⟨vi, ev, rv⟩ := rm2.get (i := i) (d := m[i]) (List.getElem?_eq_getElem li)
              obtain rfl := Option.some.inj (ev.symm.trans ex)
              obtain ⟨lr, z, el, ez, ep⟩ := row_inv (rows _ (List.getElem_mem li))
              rw [el] at rv
              obtain ⟨pr, xr, rfl, hpr, rr⟩ := (rv.keep sa).tup_inv
              obtain ⟨vz, evz, rz⟩ := rr.get (i := 0) ez
              cases rz
              have lc : (m.map portB)[i]? = some z := by rw [List.getElem?_map, List.getElem?_eq_getElem li, ← ep]; rfl
              have tk : (m.map portB).take (i + 1) = (m.map portB).take i ++ [z] := by rw [List.take_add_one, lc]; rfl
              refine ⟨rfl, _, rfl, pr, _, _, _, rfl, rfl, SqT.of hpr, at_of (j := 0) rfl evz, _, ⟨z, _, n, rfl, da, ?_, rfl⟩, fun b o e => ?_, (if decide (z ∈ (m.map portB).take i) = true then n else n + 1), ?_, ?_, ?_⟩
              · exact Nat.lt_of_le_of_lt (show n + 1 ≤ 5 by omega) (by decide)
              · rw [upd_ne (ne_of_none e nD2)]
                exact sa _ _ e
              · rw [upd_same, tk]
                congr 2
                funext j
                simp [List.mem_append]
              · split <;> omega
              · rw [tk, nodup_snoc]
                by_cases cz : z ∈ (m.map portB).take i
                · rw [if_pos (decide_eq_true cz)]
                  exact ⟨fun q => absurd q (by omega), fun q => absurd cz q.2⟩
                · rw [if_neg (by simpa using cz)]
                  rw [← nn]
                  exact ⟨fun q => ⟨by omega, cz⟩, fun q => by omega⟩
            · rintro H3 ⟨s3, n, d3, ln, nn⟩
              rw [show (m.map portB).take ys.length = m.map portB by rw [List.take_of_length_le]; rw [List.length_map, lym]; exact Nat.le_refl _] at nn
              refine ⟨D2, _, n, rfl, d3, _, rfl, q, ys, rfl, .inr (SqT.of (s3 _ _ hq2)), rfl, ?_⟩
              show Q (.bl (decide (V.int n = V.int ys.length))) H3
              have e : decide (V.int n = V.int ys.length) = decide (m.map portB).Nodup := by
                by_cases cn : n = ys.length
                · rw [decide_eq_true (show V.int n = V.int ys.length by rw [cn]), decide_eq_true (nn.mp cn)]
                · rw [decide_eq_false (fun z => cn (by have := V.int.inj z; omega)), decide_eq_false (fun z => cn (nn.mpr z))]
              rw [e]
              exact k H3 (s12.trans s3)
    · rw [decide_eq_false (fun z => c (by have := V.int.inj z; omega))]
      have e1 : waitB (.tup l) = false := by
        show ((l.length == 2) && _) = _
        rw [← hl, beq_eq_false_iff_ne.mpr c, Bool.false_and]
      rw [e1] at k
      exact iteT (k H (Same.refl H))
end
end Oh
namespace Oh
open PySem PySem.Spec PyProof.Rows L2 PpSet
def blocksB (d : DT) : List DT :=
  if headB d = "if" then [argB d 2, argB d 3] else if headB d = "repeat" then [argB d 1] else if headB d = "open" then listB (argB d 1) else if headB d = "wait" then (listB (argB d 1)).map fun r => argB r 2 else []
/-- the list of the blocks -/
def spBlocks (K : PySem.W.Frag) : Sp := fun vs H Q _ => ∃ v d, vs = [v] ∧ Rp K H v d ∧ stmtB d = true ∧ ∀ p H' ys, Same H H' → H p = none → H' p = some (.lst ys) → RpAll K H' ys (blocksB d) → Q (.ref p) H'
theorem stmt_inv {d : DT} (h : stmtB d = true) : ∃ g l, kindB (headB d) = some g ∧ g d = true ∧ d = .tup (.str (headB d) :: l) := by
  unfold stmtB at h
  cases e : kindB (headB d) with
  | none => rw [e] at h; cases h
  | some g =>
    rw [e] at h
    have ne : headB d ≠ "" := fun z => by
      rw [z] at e
      cases e
    obtain ⟨l, el⟩ := head_inv ne
    exact ⟨g, l, rfl, h, el⟩
theorem RpAll.snoc {K : PySem.W.Frag} {H : Hp} : ∀ {vs : List V} {ds : List DT} {v : V} {d : DT}, RpAll K H vs ds → Rp K H v d → RpAll K H (vs ++ [v]) (ds ++ [d])
  | _, _, _, _, .nil, r => .cons r .nil
  | _, _, _, _, .cons h t, r => .cons h (t.snoc r)
theorem len_of {d : DT} {l : List DT} (e : d = .tup l) : lenB d = l.length := by rw [e]; rfl
section
variable {P : Program} {w : World} {K : PySem.W.Frag} {mg : Str → Option Value} {base : Heap} {kw pk ck : Addr}
theorem if_len {d : DT} (h : stmtB d = true) (e : headB d = "if") : lenB d = 4 ∧ blockB (argB d 2) = true ∧ blockB (argB d 3) = true ∧ exprB 4 (argB d 1) = true := by
  obtain ⟨g, l, k, z, _⟩ := stmt_inv h
  rw [e] at k
  obtain rfl := Option.some.inj (show some ifB = some g from k)
  obtain ⟨h1, z⟩ := Bool.and_eq_true_iff.mp z
  obtain ⟨h2, z⟩ := Bool.and_eq_true_iff.mp z
  obtain ⟨h3, h4⟩ := Bool.and_eq_true_iff.mp z
  exact ⟨beq_iff_eq.mp h1, h3, h4, h2⟩
theorem repeat_len {d : DT} (h : stmtB d = true) (e : headB d = "repeat") : lenB d = 2 ∧ blockB (argB d 1) = true := by
  obtain ⟨g, l, k, z, _⟩ := stmt_inv h
  rw [e] at k
  obtain rfl := Option.some.inj (show some repeatB = some g from k)
  obtain ⟨h1, z⟩ := Bool.and_eq_true_iff.mp z
  exact ⟨beq_iff_eq.mp h1, z⟩
theorem open_len {d : DT} (h : stmtB d = true) (e : headB d = "open") : lenB d = 2 ∧ choiceB (argB d 1) = true ∧ ∀ b ∈ listB (argB d 1), blockB b = true := by
  obtain ⟨g, l, k, z, _⟩ := stmt_inv h
  rw [e] at k
  obtain rfl := Option.some.inj (show some openB = some g from k)
  obtain ⟨h1, z⟩ := Bool.and_eq_true_iff.mp z
  obtain ⟨h2, h3⟩ := Bool.and_eq_true_iff.mp z
  exact ⟨beq_iff_eq.mp h1, h2, fun b mb => List.all_eq_true.mp h3 _ (List.mem_map_of_mem mb)⟩
theorem wait_len {d : DT} (h : stmtB d = true) (e : headB d = "wait") : lenB d = 2 ∧ choiceB (argB d 1) = true ∧ (∀ r ∈ listB (argB d 1), rowB r = true) ∧ ((listB (argB d 1)).map portB).Nodup := by
  obtain ⟨g, l, k, z, _⟩ := stmt_inv h
  rw [e] at k
  obtain rfl := Option.some.inj (show some waitB = some g from k)
  obtain ⟨h1, z⟩ := Bool.and_eq_true_iff.mp z
  obtain ⟨h2, z⟩ := Bool.and_eq_true_iff.mp z
  obtain ⟨h3, h4⟩ := Bool.and_eq_true_iff.mp z
  exact ⟨beq_iff_eq.mp h1, h2, fun b mb => List.all_eq_true.mp h3 _ (List.mem_map_of_mem mb), of_decide_eq_true h4⟩
theorem row_len {r : DT} (h : rowB r = true) : ∃ l, r = .tup l ∧ l.length = 3 := by
  obtain ⟨h1, _⟩ := Bool.and_eq_true_iff.mp h
  cases r with
  | tup l => exact ⟨l, rfl, beq_iff_eq.mp h1⟩
  | _ => cases h1
abbrev nBl : List Str := ["statement", "head", "row"]
theorem ok_blocksD {f : Addr} {fd : FuncData} (F : Fun K "blocks_of" "blocks_of" sBlocksOf f fd) (T : TxtI mg) : FnOk P w K mg base CX0 1 f fd ["statement"] (spBlocks K) := by
  refine F.ok scBlocksOf (fun vs H Q E h => ?_) (fun cdv A outer s H vs Q E hr h => ?_)
  · obtain ⟨v, d, rfl, _⟩ := h
    rfl
  · obtain ⟨v, d, rfl, r, hs, k⟩ := h
    obtain ⟨g, l, hk, hg, el⟩ := stmt_inv hs
    obtain ⟨p, xs, rfl, hp, ra⟩ := (el ▸ r : Rp K H v (.tup (.str (headB d) :: l))).tup_inv
    have hl := ra.len
    have ll := len_of el
    obtain ⟨v0, x0, r0⟩ := ra.get (i := 0) rfl
    cases r0
    refine ⟨_, pss_cons (ps_set (i := 1) scBlocksOf.nd rfl (Or.inl rfl) (pe_ix ix_tup (pv 0) pe_int (fun _ _ => rfl)))
      (pss_cons (ps_if (pt_cmpR op_eq (pv 1) pe_str (nomark _)) (pss_one (ps_ret (pe_lst (pa_cons (pe_ix ix_tup (pv 0) pe_int (fun _ _ => rfl)) (pa_cons (pe_ix ix_tup (pv 0) pe_int (fun _ _ => rfl)) pa_nil))))) pss_nil)
      (pss_cons (ps_if (pt_cmpR op_eq (pv 1) pe_str (nomark _)) (pss_one (ps_ret (pe_lst (pa_cons (pe_ix ix_tup (pv 0) pe_int (fun _ _ => rfl)) pa_nil)))) pss_nil)
      (pss_cons (ps_if (pt_cmpR op_eq (pv 1) pe_str (nomark _)) (pss_one (ps_ret (pe_callTy call_list_of (by rfl) T.list bb_list (pa_cons (pe_ix ix_tup (pv 0) pe_int (fun _ _ => rfl)) pa_nil)))) pss_nil)
      (pss_cons (ps_if (pt_cmpR op_eq (pv 1) pe_str (nomark _)) (pss_one (ps_ret
          (pe_lc (own := [("row", 2)]) (g := gName 2) (tt := tYes) (te := tOp (rIxT K) (tVar 2) (tC (.int 2))) rfl scBlocksOf.nd (pi_tup (pe_ix ix_tup (pv 0) pe_int (fun _ _ => rfl))) (blkOk_by (N := nBl) (sc := defScope sBlocksOf) (by decide +kernel)) (fun _ _ _ _ _ => pg_name (i := 2) scBlocksOf.nd rfl (Or.inl rfl)) (fun _ _ _ _ _ => pts_nil)
            (fun _ _ _ _ _ => pe_ix ix_tup (pv 2) pe_int (fun _ _ => rfl))))) pss_nil)
      (pss_one (ps_ret (pe_lst pa_nil))))))), ?_⟩
    refine ⟨_, rfl, p, _, _, _, rfl, rfl, SqT.of hp, at_of (j := 0) rfl x0, ?_⟩
    have ge : ∀ {a b : Str}, a ≠ b → ¬ decide (V.str a = V.str b) = true := fun h z => h (V.str.inj (of_decide_eq_true z))
    refine ⟨_, rfl, rfl, _, rfl, ?_⟩
    by_cases c1 : headB d = "if"
    · refine ite2 (fun _ => ?_) (fun z => absurd (decide_eq_true (by rw [c1])) z)
      have hb : blocksB d = [argB d 2, argB d 3] := by unfold blocksB; rw [if_pos c1]
      obtain ⟨z1, _⟩ := if_len hs c1
      rw [hb] at k
      have ra' : RpAll K H xs (.str (headB d) :: l) := ra
      obtain ⟨v2, x2, r2⟩ := arg_at (i := 2) ra' (by rw [← ll, z1]; decide)
      obtain ⟨v3, x3, r3⟩ := arg_at (i := 3) ra' (by rw [← ll, z1]; decide)
      rw [← el] at r2 r3
      refine ⟨_, rfl, p, _, _, _, rfl, rfl, SqT.of hp, at_of (j := 2) rfl x2, _, rfl, p, _, _, _, rfl, rfl, SqT.of hp, at_of (j := 3) rfl x3, (by show 2 ≤ sizeLine; decide), fun q nq => ?_⟩
      exact k q _ _ (Same.new nq) nq upd_same (.cons (r2.keep (Same.new nq)) (.cons (r3.keep (Same.new nq)) .nil))
    refine ite2 (fun z => absurd z (ge c1)) fun _ => ?_
    refine ⟨_, rfl, rfl, _, rfl, ?_⟩
    by_cases c2 : headB d = "repeat"
    · refine ite2 (fun _ => ?_) (fun z => absurd (decide_eq_true (by rw [c2])) z)
      have hb : blocksB d = [argB d 1] := by unfold blocksB; rw [if_neg c1, if_pos c2]
      obtain ⟨z1, _⟩ := repeat_len hs c2
      rw [hb] at k
      obtain ⟨v1, x1, r1⟩ := arg_at (i := 1) ra (by rw [← ll, z1]; decide)
      rw [← el] at r1
      refine ⟨_, rfl, p, _, _, _, rfl, rfl, SqT.of hp, at_of (j := 1) rfl x1, (by show 1 ≤ sizeLine; decide), fun q nq => ?_⟩
      exact k q _ _ (Same.new nq) nq upd_same (.cons (r1.keep (Same.new nq)) .nil)
    refine ite2 (fun z => absurd z (ge c2)) fun _ => ?_
    refine ⟨_, rfl, rfl, _, rfl, ?_⟩
    by_cases c3 : headB d = "open"
    · refine ite2 (fun _ => ?_) (fun z => absurd (decide_eq_true (by rw [c3])) z)
      have hb : blocksB d = listB (argB d 1) := by unfold blocksB; rw [if_neg c1, if_neg c2, if_pos c3]
      obtain ⟨z1, z2, _⟩ := open_len hs c3
      rw [hb] at k
      obtain ⟨v1, x1, r1⟩ := arg_at (i := 1) ra (by rw [← ll, z1]; decide)
      rw [← el] at r1
      obtain ⟨m, em, _⟩ := choice_inv z2
      rw [em] at r1 k
      obtain ⟨q1, ys, rfl, hq1, rm⟩ := r1.tup_inv
      refine ⟨_, rfl, p, _, _, _, rfl, rfl, SqT.of hp, at_of (j := 1) rfl x1, q1, ys, rfl, .inr (SqT.of hq1), fun q nq => ?_⟩
      exact k q _ _ (Same.new nq) nq upd_same (rm.keep (Same.new nq))
    refine ite2 (fun z => absurd z (ge c3)) fun _ => ?_
    refine ⟨_, rfl, rfl, _, rfl, ?_⟩
    by_cases c4 : headB d = "wait"
    · refine ite2 (fun _ => ?_) (fun z => absurd (decide_eq_true (by rw [c4])) z)
      have hb : blocksB d = (listB (argB d 1)).map fun r => argB r 2 := by unfold blocksB; rw [if_neg c1, if_neg c2, if_neg c3, if_pos c4]
      obtain ⟨z1, z2, z3, _⟩ := wait_len hs c4
      rw [hb] at k
      obtain ⟨v1, x1, r1⟩ := arg_at (i := 1) ra (by rw [← ll, z1]; decide)
      rw [← el] at r1
      obtain ⟨m, em, lm⟩ := choice_inv z2
      rw [em] at r1 k z3
      obtain ⟨q1, ys, rfl, hq1, rm⟩ := r1.tup_inv
      refine ⟨_, rfl, p, _, _, _, rfl, rfl, SqT.of hp, at_of (j := 1) rfl x1, q1, rfl, ⟨_, SqT.of hq1⟩, fun D nD => lc_it (walk_tup (xs := ys)) (fun i H' => Same H H' ∧ ∃ acc, H' D = some (.lst acc) ∧ acc.length = i ∧ RpAll K H acc ((m.take i).map fun r => argB r 2)) ⟨Same.new nD, [], upd_same, rfl, .nil⟩ (fun i H' _ z => SqT.of (z.1 _ _ hq1)) ?_ ?_⟩
      · rintro i x Ha Hb hi ⟨sa, acc, da, la, raa⟩ ⟨e, ex⟩
        subst e
        have li : i < m.length := by rw [← rm.len]; exact hi
        obtain ⟨vi, ev, rv⟩ := rm.get (i := i) (d := m[i]) (List.getElem?_eq_getElem li)
        obtain rfl := Option.some.inj (ev.symm.trans ex)
        obtain ⟨lr, er, l3⟩ := row_len (z3 _ (List.getElem_mem li))
        have rv' := rv
        rw [er] at rv'
        obtain ⟨pr, xr, rfl, hpr, rr⟩ := rv'.tup_inv
        obtain ⟨vz, evz, rz⟩ := arg_at (i := 2) rr (by omega)
        rw [← er] at rz
        have tk : (m.take (i + 1)).map (fun r => argB r 2) = (m.take i).map (fun r => argB r 2) ++ [argB m[i] 2] := by rw [List.take_add_one, List.getElem?_eq_getElem li, List.map_append]; rfl
        refine ⟨rfl, _, rfl, pr, _, _, _, rfl, rfl, SqT.of (sa _ _ hpr), at_of (j := 2) rfl evz, acc, da, ?_, fun b o e => ?_, acc ++ [vz], upd_same, by rw [List.length_append, la]; rfl, ?_⟩
        · rw [la]
          exact Nat.lt_of_lt_of_le li (Nat.le_trans lm (by decide))
        · rw [upd_ne (ne_of_none e nD)]
          exact sa _ _ e
        · rw [tk]
          exact raa.snoc rz
      · rintro H1 ⟨s1, acc, d1, la, raa⟩
        rw [show m.take ys.length = m by rw [rm.len, List.take_length]] at raa
        exact k D H1 acc s1 nD d1 (raa.keep s1)
    refine ite2 (fun z => absurd z (ge c4)) fun _ => ?_
    have hb : blocksB d = [] := by unfold blocksB; rw [if_neg c1, if_neg c2, if_neg c3, if_neg c4]
    rw [hb] at k
    exact ⟨by decide, fun q nq => k q _ _ (Same.new nq) nq upd_same .nil⟩
end
end Oh
namespace Oh
open PySem PySem.Spec PyProof.Rows L2 PpSet
abbrev sQuiet : Stmt := top 37
abbrev sQuietOf : Stmt := top 38
def soundB (n : Nat) (d : DT) : Bool := stmtB d && (decide (n < 12) || (blocksB d).length == 0)
def spSoundD (K : PySem.W.Frag) : Sp := fun vs H Q _ => ∃ v d, ∃ n : Nat, vs = [v, .int (n : Int)] ∧ Rp K H v d ∧ ∀ H', Same H H' → Q (.bl (soundB n d)) H'
section
variable {P : Program} {w : World} {K : PySem.W.Frag} {mg : Str → Option Value} {base : Heap} {kw pk ck : Addr}
theorem ok_isSoundD {f fS fB : Addr} {fd fdS fdB : FuncData} (F : Fun K "_is_sound" "_is_sound" sIsSound f fd) (T : TxtP mg)
    (GS : FnOk P w K mg base CX0 9 fS fdS ["value"] (spB K stmtB)) (kS : PySem.W.keepIn K (.ref fS) = true) (bS : Binds K fdS ["value"] []) (mS : mg "is_statement" = some (.ref fS))
    (GB : FnOk P w K mg base CX0 1 fB fdB ["statement"] (spBlocks K)) (kB : PySem.W.keepIn K (.ref fB) = true) (bB : Binds K fdB ["statement"] []) (mB : mg "blocks_of" = some (.ref fB)) :
    FnOk P w K mg base CX0 10 f fd ["item", "depth"] (spSoundD K) := by
  refine F.ok scIsSound (fun vs H Q E h => ?_) (fun cdv A outer s H vs Q E hr h => ?_)
  · obtain ⟨v, d, n, rfl, _⟩ := h
    rfl
  · obtain ⟨v, d, n, rfl, r, k⟩ := h
    have hr1 : Room 1 _ := hr.mono (by decide)
    obtain ⟨t, md⟩ := T.deepest
    refine ⟨_, pss_one (ps_ret (pe_and (pe_call GS hr (by rfl) mS kS bS .nil pass0 (pa_cons (pv 0) pa_nil)) (pe_one (pe_or (pe_cmpR op_lt (pv 1) (pe_glob (v := .int 12) (by rfl) md ⟨t, rfl⟩) (nomark _))
      (pe_one (pe_cmpR op_eq (pe_callB call_len_seq (by rfl) T.len boot_len (pa_cons (pe_call GB hr1 (by rfl) mB kB bB .nil pass0 (pa_cons (pv 0) pa_nil)) pa_nil)) pe_int (nomark _))))))), ?_⟩
    refine ⟨_, rfl, v, d, rfl, r, fun H1 s1 => ⟨_, rfl, ?_⟩⟩
    cases hb : stmtB d with
    | false =>
      have e : soundB n d = false := by unfold soundB; rw [hb]; rfl
      rw [e] at k
      exact iteF (k H1 s1)
    | true =>
      refine iteT ⟨_, rfl, _, _, rfl, rfl, _, rfl, ?_⟩
      by_cases c : n < 12
      · have e : soundB n d = true := by unfold soundB; rw [hb, decide_eq_true c]; rfl
        rw [e] at k
        refine ite2 (fun _ => k H1 s1) (fun z => absurd (decide_eq_true (show (n : Int) < 12 by omega)) z)
      · refine ite2 (fun z => absurd (of_decide_eq_true z) (by omega)) fun _ => ?_
        refine ⟨_, rfl, v, d, rfl, r.keep s1, hb, fun q H2 ys s2 nq hq ra => ⟨q, ys, rfl, .inl (SqL.of hq), rfl, ?_⟩⟩
        show Q (.bl (decide (V.int ys.length = V.int 0))) H2
        have e : decide (V.int ys.length = V.int 0) = soundB n d := by
          unfold soundB
          rw [hb, decide_eq_false c, Bool.true_and, Bool.false_or, ← ra.len]
          by_cases c2 : ys.length = 0
          · rw [c2]
            rfl
          · rw [beq_eq_false_iff_ne.mpr c2]
            exact decide_eq_false fun z => c2 (by have := V.int.inj z; omega)
        rw [e]
        exact k H2 (s1.trans s2)
end
end Oh
namespace Oh
open PySem PySem.Spec PyProof.Rows L2 PpSet
/-- the quiet ways of one item: whether one passes, whether one leaves; rec: those of a block within -/
def quietOf (rec : DT → Bool × Bool) (n : Nat) (d : DT) : Bool × Bool :=
  if soundB n d = false then (false, false) else if headB d = "set" then (true, false) else if headB d = "leave" then (false, true) else if headB d = "repeat" then ((rec (argB d 1)).2, false)
  else if headB d = "if" ∨ headB d = "open" then ((((blocksB d).map rec).map (·.1)).any id, (((blocksB d).map rec).map (·.2)).any id) else (false, false)
def quietL (one : DT → Bool × Bool) : List DT → Bool → Bool × Bool
  | [], lv => (true, lv)
  | d :: r, lv => if (one d).1 = true then quietL one r (lv || (one d).2) else (false, lv || (one d).2)
/-- f levels may come below; the depth is 12 - f -/
def quietR : Nat → DT → Bool × Bool
  | 0 => fun _ => (false, false)
  | f + 1 => fun b => quietL (quietOf (quietR f) (12 - f)) (listB b) false
abbrev quietB (f : Nat) : DT → Bool × Bool := quietR (f + 1)
/-- a pair of truth values, new -/
def Pair (H H' : Hp) (p : Addr) (a : Bool × Bool) : Prop := Same H H' ∧ H p = none ∧ H' p = some (.tup [.bl a.1, .bl a.2])
def spQuiet (K : PySem.W.Frag) (f : Nat) : Sp := fun vs H Q _ => ∃ v d, ∃ n : Nat, vs = [v, .int (n : Int)] ∧ n + f = 12 ∧ Rp K H v d ∧ blockB d = true ∧ ∀ p H', Pair H H' p (quietB f d) → Q (.ref p) H'
def spQuietP (K : PySem.W.Frag) : Nat → Sp
  | 0 => fun _ _ _ _ => False
  | f + 1 => spQuiet K f
def spQuietOf (K : PySem.W.Frag) (f : Nat) : Sp := fun vs H Q _ => ∃ v d, ∃ n : Nat, vs = [v, .int (n : Int)] ∧ n + f = 12 ∧ Rp K H v d ∧ ∀ p H', Pair H H' p (quietOf (quietR f) n d) → Q (.ref p) H'
theorem block_inv {d : DT} (h : blockB d = true) : ∃ l, d = .tup l ∧ l.length ≤ 12 := by
  cases d with
  | tup l => exact ⟨l, rfl, of_decide_eq_true h⟩
  | _ => cases h
section
variable {P : Program} {w : World} {K : PySem.W.Frag} {mg : Str → Option Value} {base : Heap} {kw pk ck : Addr}
abbrev nQw : List Str := ["block", "depth", "leaves", "item", "passes", "leaves_here"]
theorem scQuiet : FnScope nQw ["block", "depth"] (defScope sQuiet) := ⟨rfl, rfl, rfl, by decide +kernel, rfl, by decide +kernel, by decide +kernel⟩
theorem quiet_step {f : Nat} {fQ fO : Addr} {fdQ fdO : FuncData} (F : Fun K "_quiet_ways" "_quiet_ways" sQuiet fQ fdQ)
    (GO : FnOk P w K mg base CX0 (11 + 2 * f) fO fdO ["item", "depth"] (spQuietOf K f)) (kO : PySem.W.keepIn K (.ref fO) = true) (bO : Binds K fdO ["item", "depth"] []) (mO : mg "_quiet_ways_of" = some (.ref fO)) :
    FnOk P w K mg base CX0 (11 + 2 * f + 1) fQ fdQ ["block", "depth"] (spQuiet K f) := by
  refine F.ok scQuiet (fun vs H Q E h => ?_) (fun cdv A outer s H vs Q E hr h => ?_)
  · obtain ⟨v, d, n, rfl, _⟩ := h
    rfl
  · obtain ⟨v, d, n, rfl, hn, r, hb, k⟩ := h
    obtain ⟨l, rfl, ll⟩ := block_inv hb
    obtain ⟨p, xs, rfl, hp, ra⟩ := r.tup_inv
    have hl := ra.len
    have en : 12 - f = n := by omega
    refine ⟨_, pss_cons (ps_set (i := 2) scQuiet.nd rfl (Or.inl rfl) pe_bl)
      (pss_cons (ps_for PassesOwn.never rfl (pi_tup (pv 0)) (pg_name (i := 3) scQuiet.nd rfl (Or.inl rfl))
        (pss_cons (ps_asg (pe_call GO hr (by rfl) mO kO bO .nil pass0 (pa_cons (pv 3) (pa_cons (pv 1) pa_nil))) (pg_tup rfl (pgs_cons (pg_name (i := 4) scQuiet.nd rfl (Or.inl rfl)) (pgs_cons (pg_name (i := 5) scQuiet.nd rfl (Or.inl rfl)) pgs_nil))))
        (pss_cons (ps_set (i := 2) scQuiet.nd rfl (Or.inl rfl) (pe_or (pv 2) (pe_one (pv 5))))
        (pss_one (ps_if (pt_not (pt_val (pv 4))) (pss_one (ps_ret (pe_tup (pa_cons pe_bl (pa_cons (pv 2) pa_nil))))) pss_nil)))))
      (pss_one (ps_ret (pe_tup (pa_cons pe_bl (pa_cons (pv 2) pa_nil)))))), ?_⟩
    -- what is left: the rest of the block, with what leaves so far
    have fin : ∀ (lv : Bool) (b : Bool) (H1 : Hp), Same H H1 → quietB f (.tup l) = (b, lv) → ∀ q, H1 q = none → Q (.ref q) (upd H1 q (.tup [.bl b, .bl lv])) := fun lv b H1 s1 e q nq => by
      refine k q _ ⟨s1.trans (Same.new nq), s1.free nq, ?_⟩
      rw [upd_same, e]
    refine ⟨_, rfl, p, rfl, ⟨_, SqT.of hp⟩, for_it (walk_tup (xs := xs)) (fun i σ H' => ∃ (lv : Bool) (y z t : Option V), σ = [some (.ref p), some (.int (n : Int)), some (.bl lv), y, z, t] ∧ Same H H' ∧ quietB f (.tup l) = quietL (quietOf (quietR f) n) (l.drop i) lv)
      ⟨false, _, _, _, rfl, Same.refl H, by show quietL (quietOf (quietR f) (12 - f)) l false = _; rw [en]; rfl⟩ ?_ ?_ ?_⟩
    · rintro i σ H' _ ⟨lv, y, z, t, _, s', _⟩
      exact SqT.of (s' _ _ hp)
    · rintro i x σ H1 H2 hi ⟨lv, y, z, t, rfl, s1, e⟩ ⟨e2, ex⟩
      subst e2
      have li : i < l.length := by rw [← hl]; exact hi
      obtain ⟨vi, ev, rv⟩ := ra.get (i := i) (d := l[i]) (List.getElem?_eq_getElem li)
      obtain rfl := Option.some.inj (ev.symm.trans ex)
      have dr : l.drop i = l[i] :: l.drop (i + 1) := List.drop_eq_getElem_cons li
      rw [dr] at e
      refine ⟨_, rfl, _, rfl, vi, l[i], n, rfl, hn, rv.keep s1, fun q H3 ⟨s3, nq, hq⟩ => ⟨q, _, rfl, SqT.of hq, rfl, _, _, rfl, _, _, rfl, rfl, ?_⟩⟩
      generalize hqw : quietOf (quietR f) n l[i] = qw at hq e ⊢
      obtain ⟨pa, lh⟩ := qw
      have s13 := s1.trans s3
      have e' : quietB f (.tup l) = if pa = true then quietL (quietOf (quietR f) n) (l.drop (i + 1)) (lv || lh) else (false, lv || lh) := by
        rw [e]
        show (if (quietOf (quietR f) n l[i]).1 = true then quietL _ _ (lv || (quietOf (quietR f) n l[i]).2) else (false, lv || (quietOf (quietR f) n l[i]).2)) = _
        rw [hqw]
      cases lv with
      | true =>
        refine ⟨_, rfl, _, rfl, iteT ⟨_, rfl, _, rfl, ?_⟩⟩
        cases pa with
        | true => exact iteF ⟨true, _, _, _, rfl, s13, e'⟩
        | false => exact iteT ⟨_, rfl, (by show 2 ≤ sizeLine; decide), fun q2 nq2 => fin true false H3 s13 e' q2 nq2⟩
      | false =>
        refine ⟨_, rfl, _, rfl, iteF ⟨_, rfl, ⟨_, rfl, _, rfl, ?_⟩⟩⟩
        cases pa with
        | true => exact iteF ⟨lh, _, _, _, rfl, s13, e'⟩
        | false => exact iteT ⟨_, rfl, (by show 2 ≤ sizeLine; decide), fun q2 nq2 => fin lh false H3 s13 e' q2 nq2⟩
    · rintro σ H1 ⟨lv, y, z, t, rfl, s1, e⟩
      have dr : l.drop xs.length = [] := by rw [hl]; exact List.drop_length
      rw [dr] at e
      exact ⟨_, rfl, (by show 2 ≤ sizeLine; decide), fun q nq => fin lv true H1 s1 e q nq⟩
end
end Oh
namespace Oh
open PySem PySem.Spec PyProof.Rows L2 PpSet
theorem boot_anyO : bootBuiltins "any" = some (.builtin "any") := by decide +kernel
/-- the blocks of a statement are blocks, and few -/
theorem blocks_ok {d : DT} (h : stmtB d = true) : (∀ b ∈ blocksB d, blockB b = true) ∧ (blocksB d).length ≤ 4 := by
  unfold blocksB
  split
  · rename_i e
    obtain ⟨_, h2, h3, _⟩ := if_len h e
    refine ⟨fun b mb => ?_, (by show 2 ≤ 4; decide)⟩
    rcases List.mem_cons.mp mb with rfl | mb
    · exact h2
    · rcases List.mem_cons.mp mb with rfl | mb
      · exact h3
      · cases mb
  split
  · rename_i e
    obtain ⟨_, h2⟩ := repeat_len h e
    refine ⟨fun b mb => ?_, (by show 1 ≤ 4; decide)⟩
    rcases List.mem_cons.mp mb with rfl | mb
    · exact h2
    · cases mb
  split
  · rename_i e
    obtain ⟨_, h2, h3⟩ := open_len h e
    obtain ⟨m, em, lm⟩ := choice_inv h2
    exact ⟨h3, by rw [em]; exact lm⟩
  split
  · rename_i e
    obtain ⟨_, h2, h3, _⟩ := wait_len h e
    obtain ⟨m, em, lm⟩ := choice_inv h2
    refine ⟨fun b mb => ?_, by rw [em, List.length_map]; exact lm⟩
    obtain ⟨r, mr, rfl⟩ := List.mem_map.mp mb
    have z := h3 r mr
    unfold rowB at z
    exact (Bool.and_eq_true_iff.mp (Bool.and_eq_true_iff.mp (Bool.and_eq_true_iff.mp z).2).2).2
  · exact ⟨fun b mb => absurd mb (by simp), by simp⟩
theorem sound_room {n : Nat} {d : DT} (h : soundB n d = true) (ne : (blocksB d).length ≠ 0) : n < 12 := by
  have h2 := (Bool.and_eq_true_iff.mp (show (stmtB d && (decide (n < 12) || (blocksB d).length == 0)) = true from h)).2
  have h3 : n < 12 ∨ (blocksB d).length = 0 := by simpa using h2
  exact h3.elim id fun z => absurd z ne
theorem inner_some {d : DT} (h : stmtB d = true) (c : headB d = "if" ∨ headB d = "open") : (blocksB d).length ≠ 0 := by
  unfold blocksB
  rcases c with c | c
  · rw [if_pos c]
    simp
  · rw [if_neg (by rw [c]; decide), if_neg (by rw [c]; decide), if_pos c]
    obtain ⟨_, h2, _⟩ := open_len h c
    cases e : argB d 1 with
    | tup m =>
      rw [e] at h2
      have h2 : (decide (1 ≤ m.length) && decide (m.length ≤ 4)) = true := h2
      have h3 := of_decide_eq_true (Bool.and_eq_true_iff.mp h2).1
      show m.length ≠ 0
      omega
    | _ => rw [e] at h2; cases h2
/-- the list of pairs -/
def Prs2 (H : Hp) (vs : List V) (ws : List (Bool × Bool)) : Prop := Paired (fun v (a : Bool × Bool) => ∃ p, v = V.ref p ∧ H p = some (.tup [.bl a.1, .bl a.2])) vs ws
theorem Prs2.keep {H H' : Hp} (s : Same H H') : ∀ {vs : List V} {ws : List (Bool × Bool)}, Prs2 H vs ws → Prs2 H' vs ws
  | _, _, .nil => .nil
  | _, _, .cons ⟨p, e, h⟩ t => .cons ⟨p, e, s _ _ h⟩ (Prs2.keep s t)
theorem Prs2.snoc {H : Hp} : ∀ {vs : List V} {ws : List (Bool × Bool)} {v : V} {a : Bool × Bool}, Prs2 H vs ws → (∃ p, v = V.ref p ∧ H p = some (.tup [.bl a.1, .bl a.2])) → Prs2 H (vs ++ [v]) (ws ++ [a])
  | _, _, _, _, .nil, h => .cons h .nil
  | _, _, _, _, .cons h t, z => .cons h (Prs2.snoc t z)
theorem Prs2.get {H : Hp} : ∀ {vs : List V} {ws : List (Bool × Bool)} {i : Nat} {v : V}, Prs2 H vs ws → vs[i]? = some v → ∃ a p, ws[i]? = some a ∧ v = V.ref p ∧ H p = some (.tup [.bl a.1, .bl a.2])
  | _, _, i, v, .nil, h => by simp at h
  | _, _, 0, v, .cons ⟨p, e, hp⟩ _, h => by
    obtain rfl := Option.some.inj h
    exact ⟨_, p, rfl, e, hp⟩
  | _, _, i + 1, v, .cons _ t, h => Prs2.get (i := i) t h
theorem Prs2.upd {H : Hp} {D : Addr} {xs : List V} {o : HO} (hD : H D = some (.lst xs)) : ∀ {vs : List V} {ws : List (Bool × Bool)}, Prs2 H vs ws → Prs2 (upd H D o) vs ws
  | _, _, .nil => .nil
  | _, _, .cons ⟨p, e, h⟩ t => .cons ⟨p, e, by
    have ne : p ≠ D := fun z => by
      subst z
      cases hD.symm.trans h
    rw [upd_ne ne]
    exact h⟩ (Prs2.upd hD t)
theorem Prs2.len {H : Hp} {vs : List V} {ws : List (Bool × Bool)} (h : Prs2 H vs ws) : vs.length = ws.length := Paired.length h
section
variable {P : Program} {w : World} {K : PySem.W.Frag} {mg : Str → Option Value} {base : Heap} {kw pk ck : Addr}
abbrev nQo : List Str := ["item", "depth", "head", "ways", "inner", "passes", "_", "leaves"]
theorem scQuietOf : FnScope nQo ["item", "depth"] (defScope sQuietOf) := ⟨rfl, rfl, rfl, by decide +kernel, rfl, by decide +kernel, by decide +kernel⟩
theorem of_step {f : Nat} {fQ fO fS fB : Addr} {fdQ fdO fdS fdB : FuncData} (F : Fun K "_quiet_ways_of" "_quiet_ways_of" sQuietOf fO fdO) (mAny : mg "any" = none)
    (GS : FnOk P w K mg base CX0 10 fS fdS ["item", "depth"] (spSoundD K)) (kS : PySem.W.keepIn K (.ref fS) = true) (bS : Binds K fdS ["item", "depth"] []) (mS : mg "_is_sound" = some (.ref fS))
    (GB : FnOk P w K mg base CX0 1 fB fdB ["statement"] (spBlocks K)) (kB : PySem.W.keepIn K (.ref fB) = true) (bB : Binds K fdB ["statement"] []) (mB : mg "blocks_of" = some (.ref fB))
    (GQ : FnOk P w K mg base CX0 (10 + 2 * f) fQ fdQ ["block", "depth"] (spQuietP K f)) (kQ : PySem.W.keepIn K (.ref fQ) = true) (bQ : Binds K fdQ ["block", "depth"] []) (mQ : mg "_quiet_ways" = some (.ref fQ)) :
    FnOk P w K mg base CX0 (10 + 2 * f + 1) fO fdO ["item", "depth"] (spQuietOf K f) := by
  refine F.ok scQuietOf (fun vs H Q E h => ?_) (fun cdv A outer s H vs Q E hr h => ?_)
  · obtain ⟨v, d, n, rfl, _⟩ := h
    rfl
  · obtain ⟨v, d, n, rfl, hn, r, k⟩ := h
    have hr1 : Room 1 _ := hr.mono (by omega)
    have hr10 : Room 10 _ := hr.mono (by omega)
    refine ⟨_, pss_cons (ps_if (pt_not (pt_val (pe_call GS hr10 (by rfl) mS kS bS .nil pass0 (pa_cons (pv 0) (pa_cons (pv 1) pa_nil))))) (pss_one (ps_ret (pe_tup (pa_cons pe_bl (pa_cons pe_bl pa_nil))))) pss_nil)
      (pss_cons (ps_set (i := 2) scQuietOf.nd rfl (Or.inl rfl) (pe_ix ix_tup (pv 0) pe_int (fun _ _ => rfl)))
      (pss_cons (ps_if (pt_cmpR op_eq (pv 2) pe_str (nomark _)) (pss_one (ps_ret (pe_tup (pa_cons pe_bl (pa_cons pe_bl pa_nil))))) pss_nil)
      (pss_cons (ps_if (pt_cmpR op_eq (pv 2) pe_str (nomark _)) (pss_one (ps_ret (pe_tup (pa_cons pe_bl (pa_cons pe_bl pa_nil))))) pss_nil)
      (pss_cons (ps_if (pt_cmpR op_eq (pv 2) pe_str (nomark _)) (pss_one (ps_ret (pe_tup (pa_cons (pe_ix ix_tup (pe_call GQ hr (by rfl) mQ kQ bQ .nil pass0 (pa_cons (pe_ix ix_tup (pv 0) pe_int (fun _ _ => rfl)) (pa_cons (pe_op op_add (pv 1) pe_int) pa_nil))) pe_int (fun _ _ => rfl)) (pa_cons pe_bl pa_nil))))) pss_nil)
      (pss_cons (ps_if (pw_or (pt_cmpR op_eq (pv 2) pe_str (nomark _)) (pw_or1 (pt_cmpR op_eq (pv 2) pe_str (nomark _)))).pt
        (pss_cons (ps_setLc (i := 3) (own := [("inner", 4)]) (g := gName 4) (tt := tYes) (te := tCall (spQuietP K f) [] E0 (tCons (tVar 4) (tCons (tOp (rI0 fun i j => .int (i + j)) (tVar 1) (tC (.int 1))) tNil))) rfl scQuietOf.nd rfl rfl (sw_true rfl rfl rfl (by decide +kernel)) (pi_list (pe_call GB hr1 (by rfl) mB kB bB .nil pass0 (pa_cons (pv 0) pa_nil)))
            (blkOk_by (N := nQo) (sc := defScope sQuietOf) (by decide +kernel)) (fun _ _ _ _ _ => pg_name (i := 4) scQuietOf.nd rfl (Or.inl rfl)) (fun _ _ _ _ _ => pts_nil) (fun _ _ _ _ _ => pe_call GQ hr (by rfl) mQ kQ bQ .nil pass0 (pa_cons (pv 4) (pa_cons (pe_op op_add (pv 1) pe_int) pa_nil))))
        (pss_one (ps_ret (pe_tup (pa_cons
          (pe_callB (cr_any rfl) (by rfl) mAny boot_anyO (pa_cons (pe_lc (own := [("passes", 5), ("_", 6)]) (g := gTup K 2 (gCons (gName 5) (gCons (gName 6) gNil))) (tt := tYes) (te := tVar 5) rfl scQuietOf.nd (pi_list (pv 3)) (blkOk_by (N := nQo) (sc := defScope sQuietOf) (by decide +kernel))
            (fun _ _ _ _ _ => pg_tup rfl (pgs_cons (pg_name (i := 5) scQuietOf.nd rfl (Or.inl rfl)) (pgs_cons (pg_name (i := 6) scQuietOf.nd rfl (Or.inl rfl)) pgs_nil))) (fun _ _ _ _ _ => pts_nil) (fun _ _ _ _ _ => pv 5)) pa_nil))
          (pa_cons (pe_callB (cr_any rfl) (by rfl) mAny boot_anyO (pa_cons (pe_lc (own := [("_", 6), ("leaves", 7)]) (g := gTup K 2 (gCons (gName 6) (gCons (gName 7) gNil))) (tt := tYes) (te := tVar 7) rfl scQuietOf.nd (pi_list (pv 3)) (blkOk_by (N := nQo) (sc := defScope sQuietOf) (by decide +kernel))
            (fun _ _ _ _ _ => pg_tup rfl (pgs_cons (pg_name (i := 6) scQuietOf.nd rfl (Or.inl rfl)) (pgs_cons (pg_name (i := 7) scQuietOf.nd rfl (Or.inl rfl)) pgs_nil))) (fun _ _ _ _ _ => pts_nil) (fun _ _ _ _ _ => pv 7)) pa_nil)) pa_nil)))))) pss_nil)
      (pss_one (ps_ret (pe_tup (pa_cons pe_bl (pa_cons pe_bl pa_nil)))))))))), ?_⟩
    have ret : ∀ (a b : Bool) (H1 : Hp), Same H H1 → quietOf (quietR f) n d = (a, b) → (2 ≤ sizeLine ∧ ∀ q, H1 q = none → Q (.ref q) (upd H1 q (.tup [.bl a, .bl b]))) := fun a b H1 s1 e => by
      refine ⟨by decide, fun q nq => k q _ ⟨s1.trans (Same.new nq), s1.free nq, ?_⟩⟩
      rw [upd_same, e]
    have ge : ∀ {a b : Str}, a ≠ b → ¬ decide (V.str a = V.str b) = true := fun h z => h (V.str.inj (of_decide_eq_true z))
    refine ⟨_, rfl, _, rfl, v, d, n, rfl, r, fun H1 s1 => ⟨_, rfl, ?_⟩⟩
    cases hb : soundB n d with
    | false => exact iteT (ret false false H1 s1 (by unfold quietOf; rw [if_pos hb]))
    | true =>
      refine iteF ?_
      have nb : ¬ soundB n d = false := by rw [hb]; decide
      have hs : stmtB d = true := (Bool.and_eq_true_iff.mp (show (stmtB d && (decide (n < 12) || (blocksB d).length == 0)) = true from hb)).1
      obtain ⟨g, l, hk, hg, el⟩ := stmt_inv hs
      obtain ⟨p, xs, rfl, hp, ra⟩ := (el ▸ r : Rp K H v (.tup (.str (headB d) :: l))).tup_inv
      have ll := len_of el
      obtain ⟨v0, x0, r0⟩ := ra.get (i := 0) rfl
      cases r0
      refine ⟨_, rfl, p, _, _, _, rfl, rfl, SqT.of (s1 _ _ hp), at_of (j := 0) rfl x0, ?_⟩
      refine ⟨_, rfl, rfl, _, rfl, ?_⟩
      by_cases c1 : headB d = "set"
      · exact ite2 (fun _ => ret true false H1 s1 (by unfold quietOf; rw [if_neg nb, if_pos c1])) (fun z => absurd (decide_eq_true (by rw [c1])) z)
      refine ite2 (fun z => absurd z (ge c1)) fun _ => ?_
      refine ⟨_, rfl, rfl, _, rfl, ?_⟩
      by_cases c2 : headB d = "leave"
      · exact ite2 (fun _ => ret false true H1 s1 (by unfold quietOf; rw [if_neg nb, if_neg c1, if_pos c2])) (fun z => absurd (decide_eq_true (by rw [c2])) z)
      refine ite2 (fun z => absurd z (ge c2)) fun _ => ?_
      refine ⟨_, rfl, rfl, _, rfl, ?_⟩
      by_cases c3 : headB d = "repeat"
      · refine ite2 (fun _ => ?_) (fun z => absurd (decide_eq_true (by rw [c3])) z)
        obtain ⟨z1, z2⟩ := repeat_len hs c3
        have room : n < 12 := sound_room hb (by unfold blocksB; rw [if_neg (by rw [c3]; decide), if_pos c3]; simp)
        obtain ⟨f', rfl⟩ : ∃ f', f = f' + 1 := ⟨f - 1, by omega⟩
        obtain ⟨v1, x1, r1⟩ := arg_at (i := 1) ra (by rw [← ll, z1]; decide)
        rw [← el] at r1
        refine ⟨_, rfl, p, _, _, _, rfl, rfl, SqT.of (s1 _ _ hp), at_of (j := 1) rfl x1, _, rfl, _, _, rfl, rfl, v1, argB d 1, n + 1, rfl, by omega, r1.keep s1, z2, fun q H2 ⟨s2, nq, hq⟩ => ⟨q, _, _, _, rfl, rfl, SqT.of hq, rfl, ?_⟩⟩
        refine ret _ _ H2 (s1.trans s2) ?_
        unfold quietOf
        rw [if_neg nb, if_neg c1, if_neg c2, if_pos c3]
      refine ite2 (fun z => absurd z (ge c3)) fun _ => ?_
      by_cases c : headB d = "if" ∨ headB d = "open"
      · obtain ⟨bk, b4⟩ := blocks_ok hs
        have room : n < 12 := sound_room hb (inner_some hs c)
        obtain ⟨f', rfl⟩ : ∃ f', f = f' + 1 := ⟨f - 1, by omega⟩
        have eq : quietOf (quietR (f' + 1)) n d = ((((blocksB d).map (quietB f')).map (·.1)).any id, (((blocksB d).map (quietB f')).map (·.2)).any id) := by
          unfold quietOf
          rw [if_neg nb, if_neg c1, if_neg c2, if_neg c3, if_pos c]
        have c' := c
        rcases c with c | c
        refine ⟨_, rfl, rfl, _, rfl, ite2 (fun _ => ?_) (fun z => absurd (decide_eq_true (by rw [c])) z)⟩
        rotate_left
        refine ⟨_, rfl, rfl, _, rfl, ite2 (fun z => absurd z (ge (by rw [c]; decide))) fun _ => ⟨_, rfl, rfl, _, rfl, ite2 (fun _ => ?_) (fun z => absurd (decide_eq_true (by rw [c])) z)⟩⟩
        all_goals
          have rd := r.keep s1
          refine ⟨_, rfl, _, d, rfl, rd, hs, fun q H2 ys s2 nq hq rb => ⟨q, rfl, ⟨_, SqL.of hq⟩, fun D nD => lc_it (walk_list (xs := ys)) (fun i H' => Same H2 H' ∧ ∃ acc, H' D = some (.lst acc) ∧ Prs2 H' acc (((blocksB d).take i).map (quietB f'))) ⟨Same.new nD, [], upd_same, .nil⟩ (fun i H' _ z => SqL.of (z.1 _ _ hq)) ?_ ?_⟩⟩
          · rintro i x Ha Hb hi ⟨sa, acc, da, pa⟩ ⟨e, ex⟩
            subst e
            have li : i < (blocksB d).length := by rw [← rb.len]; exact hi
            obtain ⟨vi, ev, rv⟩ := rb.get (i := i) (d := (blocksB d)[i]) (List.getElem?_eq_getElem li)
            obtain rfl := Option.some.inj (ev.symm.trans ex)
            have tk : ((blocksB d).take (i + 1)).map (quietB f') = ((blocksB d).take i).map (quietB f') ++ [quietB f' (blocksB d)[i]] := by rw [List.take_add_one, List.getElem?_eq_getElem li, List.map_append]; rfl
            refine ⟨rfl, _, rfl, _, rfl, _, _, rfl, rfl, vi, (blocksB d)[i], n + 1, rfl, by omega, rv.keep sa, bk _ (List.getElem_mem li), fun q2 Hc ⟨sc, nq2, hq2⟩ => ⟨acc, sc _ _ da, ?_, fun b o e => ?_, acc ++ [V.ref q2], upd_same, ?_⟩⟩
            · rw [pa.len, List.length_map, List.length_take]
              exact Nat.lt_of_le_of_lt (Nat.min_le_right _ _) (Nat.lt_of_le_of_lt b4 (by decide))
            · rw [upd_ne (ne_of_none e nD)]
              exact sc _ _ (sa _ _ e)
            · rw [tk]
              exact Prs2.upd (sc _ _ da) ((pa.keep sc).snoc ⟨q2, rfl, hq2⟩)
          · rintro H3 ⟨s3, acc, d3, p3⟩
            rw [show (blocksB d).take ys.length = blocksB d by rw [rb.len, List.take_length]] at p3
            have s13 := s1.trans (s2.trans s3)
            have la := p3.len
            have lw : ((blocksB d).map (quietB f')).length ≤ 4 := by rw [List.length_map]; exact b4
            refine ⟨_, rfl, D, rfl, ⟨_, SqL.of d3⟩, fun E1 nE => lc_it (walk_list (xs := acc)) (fun i H' => Same H3 H' ∧ H' E1 = some (.lst (((((blocksB d).map (quietB f')).map (·.1)).take i).map V.bl))) ⟨Same.new nE, upd_same⟩ (fun i H' _ z => SqL.of (z.1 _ _ d3)) ?_ ?_⟩
            · rintro i x Ha Hb hi ⟨sa, da⟩ ⟨e, ex⟩
              subst e
              obtain ⟨a, pp, ea, rfl, hpp⟩ := p3.get ex
              have lc : (((blocksB d).map (quietB f')).map (·.1))[i]? = some a.1 := by rw [List.getElem?_map, ea]; rfl
              refine ⟨pp, _, rfl, SqT.of (sa _ _ hpp), rfl, _, _, rfl, _, _, rfl, rfl, rfl, _, rfl, _, da, ?_, fun b o e => ?_, ?_⟩
              · rw [List.length_map, List.length_take, List.length_map]
                exact Nat.lt_of_le_of_lt (Nat.min_le_right _ _) (Nat.lt_of_le_of_lt lw (by decide))
              · rw [upd_ne (ne_of_none e nE)]
                exact sa _ _ e
              · rw [upd_same, List.take_add_one, lc]
                simp
            · rintro H4 ⟨s4, d4⟩
              rw [List.take_of_length_le (by rw [List.length_map, la]; exact Nat.le_refl _)] at d4
              refine ⟨E1, _, rfl, SqL.of d4, ?_⟩
              have d34 := s4 _ _ d3
              refine ⟨_, rfl, D, rfl, ⟨_, SqL.of d34⟩, fun E2 nE2 => lc_it (walk_list (xs := acc)) (fun i H' => Same H4 H' ∧ H' E2 = some (.lst (((((blocksB d).map (quietB f')).map (·.2)).take i).map V.bl))) ⟨Same.new nE2, upd_same⟩ (fun i H' _ z => SqL.of (z.1 _ _ d34)) ?_ ?_⟩
              · rintro i x Ha Hb hi ⟨sa, da⟩ ⟨e, ex⟩
                subst e
                obtain ⟨a, pp, ea, rfl, hpp⟩ := p3.get ex
                have lc : (((blocksB d).map (quietB f')).map (·.2))[i]? = some a.2 := by rw [List.getElem?_map, ea]; rfl
                refine ⟨pp, _, rfl, SqT.of (sa _ _ (s4 _ _ hpp)), rfl, _, _, rfl, _, _, rfl, rfl, rfl, _, rfl, _, da, ?_, fun b o e => ?_, ?_⟩
                · rw [List.length_map, List.length_take, List.length_map]
                  exact Nat.lt_of_le_of_lt (Nat.min_le_right _ _) (Nat.lt_of_le_of_lt lw (by decide))
                · rw [upd_ne (ne_of_none e nE2)]
                  exact sa _ _ e
                · rw [upd_same, List.take_add_one, lc]
                  simp
              · rintro H5 ⟨s5, d5⟩
                rw [List.take_of_length_le (by rw [List.length_map, la]; exact Nat.le_refl _)] at d5
                exact ⟨E2, _, rfl, SqL.of d5, ret _ _ H5 (s13.trans (s4.trans s5)) eq⟩
      · refine ⟨_, rfl, rfl, _, rfl, ite2 (fun z => absurd z (ge fun y => c (.inl y))) fun _ => ⟨_, rfl, rfl, _, rfl, ite2 (fun z => absurd z (ge fun y => c (.inr y))) fun _ => ?_⟩⟩
        exact ret false false H1 s1 (by unfold quietOf; rw [if_neg nb, if_neg c1, if_neg c2, if_neg c3, if_neg c])
end
end Oh
namespace Oh
open PySem PySem.Spec PyProof.Rows L2 PpSet
/-- f = 12 - n -/
def wrongB (f n : Nat) (inr : Bool) (d : DT) : Bool :=
  if soundB n d = false then true else if headB d = "leave" then !inr else decide (headB d = "repeat") && (quietR f (argB d 1)).1
/-- the first path of a wrong item, ascending -/
def goBlocks (rec : DT → List Nat → Bool → Option (List Nat)) (here : List Nat) (rep : Bool) : List DT → Nat → Option (List Nat)
  | [], _ => none
  | b :: bs, j => match rec b (here ++ [j]) rep with
    | some w => some w
    | none => goBlocks rec here rep bs (j + 1)
def goItems (rec : DT → List Nat → Bool → Option (List Nat)) (f n : Nat) (path : List Nat) (inr : Bool) : List DT → Nat → Option (List Nat)
  | [], _ => none
  | d :: ds, i => if wrongB f n inr d = true then some (path ++ [i]) else match goBlocks rec (path ++ [i]) (inr || decide (headB d = "repeat")) (blocksB d) 0 with
    | some w => some w
    | none => goItems rec f n path inr ds (i + 1)
def firstR : Nat → DT → List Nat → Bool → Option (List Nat)
  | 0 => fun _ _ _ => none
  | f + 1 => fun b path inr => goItems (firstR f) f (12 - f) path inr (listB b) 0
abbrev firstB (f : Nat) : DT → List Nat → Bool → Option (List Nat) := firstR (f + 1)
abbrev pathV (w : List Nat) : List V := w.map fun (n : Nat) => V.int (n : Int)
/-- a path or none -/
def PathOr (H : Hp) (v : V) : Option (List Nat) → Prop
  | none => v = .non
  | some w => ∃ p, v = .ref p ∧ H p = some (.tup (pathV w))
def spWrong (K : PySem.W.Frag) (f : Nat) : Sp := fun vs H Q _ => ∃ v d, ∃ (n : Nat) (inr : Bool), vs = [v, .int (n : Int), .bl inr] ∧ n + f = 12 ∧ Rp K H v d ∧ ∀ H', Same H H' → Q (.bl (wrongB f n inr d)) H'
def spFirstD (K : PySem.W.Frag) (f : Nat) : Sp := fun vs H Q _ => ∃ v d p, ∃ (path : List Nat) (n : Nat) (inr : Bool), vs = [v, .ref p, .int (n : Int), .bl inr] ∧ n + f = 12 ∧ Rp K H v d ∧ blockB d = true ∧ H p = some (.tup (pathV path)) ∧ path.length + 2 * f ≤ 100 ∧
  ∀ v' H', Same H H' → PathOr H' v' (firstB f d path inr) → Q v' H'
def spFirstP (K : PySem.W.Frag) : Nat → Sp
  | 0 => fun _ _ _ _ => False
  | f + 1 => spFirstD K f
section
variable {P : Program} {w : World} {K : PySem.W.Frag} {mg : Str → Option Value} {base : Heap} {kw pk ck : Addr}
theorem ok_quiet {fQ fO fS fB : Addr} {fdQ fdO fdS fdB : FuncData} (FO : Fun K "_quiet_ways_of" "_quiet_ways_of" sQuietOf fO fdO) (FQ : Fun K "_quiet_ways" "_quiet_ways" sQuiet fQ fdQ) (mAny : mg "any" = none)
    (GS : FnOk P w K mg base CX0 10 fS fdS ["item", "depth"] (spSoundD K)) (kS : PySem.W.keepIn K (.ref fS) = true) (bS : Binds K fdS ["item", "depth"] []) (mS : mg "_is_sound" = some (.ref fS))
    (GB : FnOk P w K mg base CX0 1 fB fdB ["statement"] (spBlocks K)) (kB : PySem.W.keepIn K (.ref fB) = true) (bB : Binds K fdB ["statement"] []) (mB : mg "blocks_of" = some (.ref fB))
    (bQ : Binds K fdQ ["block", "depth"] []) (mQ : mg "_quiet_ways" = some (.ref fQ)) (bO : Binds K fdO ["item", "depth"] []) (mO : mg "_quiet_ways_of" = some (.ref fO)) : ∀ f, FnOk P w K mg base CX0 (12 + 2 * f) fQ fdQ ["block", "depth"] (spQuiet K f)
  | 0 => (quiet_step (f := 0) FQ ((of_step (f := 0) FO mAny GS kS bS mS GB kB bB mB never_ok FQ.kp bQ mQ).mono (by omega)) FO.kp bO mO).mono (by omega)
  | f + 1 => (quiet_step (f := f + 1) FQ ((of_step (f := f + 1) FO mAny GS kS bS mS GB kB bB mB ((ok_quiet FO FQ mAny GS kS bS mS GB kB bB mB bQ mQ bO mO f).mono (by omega)) FQ.kp bQ mQ).mono (by omega)) FO.kp bO mO).mono (by omega)
theorem quietP {f : Nat} {fQ : Addr} {fdQ : FuncData} (G : ∀ f, FnOk P w K mg base CX0 (12 + 2 * f) fQ fdQ ["block", "depth"] (spQuiet K f)) : FnOk P w K mg base CX0 (11 + 2 * f) fQ fdQ ["block", "depth"] (spQuietP K f) := by
  cases f with
  | zero => exact never_ok
  | succ f => exact (G f).mono (by omega)
/-- whether a block deals -/
def spDeals (K : PySem.W.Frag) (f : Nat) : Sp := fun vs H Q _ => ∃ v d, ∃ n : Nat, vs = [v, .int (n : Int)] ∧ n + f = 12 ∧ Rp K H v d ∧ blockB d = true ∧ ∀ H', Same H H' → Q (.bl (!(quietB f d).1)) H'
def spDealsP (K : PySem.W.Frag) : Nat → Sp
  | 0 => fun _ _ _ _ => False
  | f + 1 => spDeals K f
theorem scDeals : FnScope ["block", "depth"] ["block", "depth"] (defScope sDeals) := ⟨rfl, rfl, rfl, by decide +kernel, rfl, by decide +kernel, by decide +kernel⟩
theorem ok_deals {f : Nat} {fD fQ : Addr} {fdD fdQ : FuncData} (F : Fun K "deals" "deals" sDeals fD fdD)
    (GQ : FnOk P w K mg base CX0 (12 + 2 * f) fQ fdQ ["block", "depth"] (spQuiet K f)) (kQ : PySem.W.keepIn K (.ref fQ) = true) (bQ : Binds K fdQ ["block", "depth"] []) (mQ : mg "_quiet_ways" = some (.ref fQ)) :
    FnOk P w K mg base CX0 (12 + 2 * f + 1) fD fdD ["block", "depth"] (spDeals K f) := by
  refine F.ok scDeals (fun vs H Q E h => ?_) (fun cdv A outer s H vs Q E hr h => ?_)
  · obtain ⟨v, d, n, rfl, _⟩ := h
    rfl
  · obtain ⟨v, d, n, rfl, hn, r, hb, k⟩ := h
    refine ⟨_, pss_one (ps_ret (pe_not (pe_ix ix_tup (pe_call GQ hr (by rfl) mQ kQ bQ .nil pass0 (pa_cons (pv 0) (pa_cons (pv 1) pa_nil))) pe_int (fun _ _ => rfl)))), ?_⟩
    exact ⟨_, rfl, _, rfl, v, d, n, rfl, hn, r, hb, fun q H2 ⟨s2, nq, hq⟩ => ⟨q, _, _, _, rfl, rfl, SqT.of hq, rfl, _, rfl, k H2 s2⟩⟩
theorem dealsP {f : Nat} {fD fQ : Addr} {fdD fdQ : FuncData} (F : Fun K "deals" "deals" sDeals fD fdD) (G : ∀ f, FnOk P w K mg base CX0 (12 + 2 * f) fQ fdQ ["block", "depth"] (spQuiet K f)) (kQ : PySem.W.keepIn K (.ref fQ) = true) (bQ : Binds K fdQ ["block", "depth"] []) (mQ : mg "_quiet_ways" = some (.ref fQ)) :
    FnOk P w K mg base CX0 (11 + 2 * f) fD fdD ["block", "depth"] (spDealsP K f) := by
  cases f with
  | zero => exact never_ok
  | succ f => exact (ok_deals F (G f) kQ bQ mQ).mono (by omega)
theorem ok_isWrongD {f : Nat} {fW fQ fS : Addr} {fdW fdQ fdS : FuncData} (F : Fun K "_is_wrong" "_is_wrong" sIsWrong fW fdW)
    (GS : FnOk P w K mg base CX0 10 fS fdS ["item", "depth"] (spSoundD K)) (kS : PySem.W.keepIn K (.ref fS) = true) (bS : Binds K fdS ["item", "depth"] []) (mS : mg "_is_sound" = some (.ref fS))
    (GQ : FnOk P w K mg base CX0 (11 + 2 * f) fQ fdQ ["block", "depth"] (spDealsP K f)) (kQ : PySem.W.keepIn K (.ref fQ) = true) (bQ : Binds K fdQ ["block", "depth"] []) (mQ : mg "deals" = some (.ref fQ)) :
    FnOk P w K mg base CX0 (11 + 2 * f + 1) fW fdW ["item", "depth", "in_repeat"] (spWrong K f) := by
  refine F.ok scIsWrong (fun vs H Q E h => ?_) (fun cdv A outer s H vs Q E hr h => ?_)
  · obtain ⟨v, d, n, inr, rfl, _⟩ := h
    rfl
  · obtain ⟨v, d, n, inr, rfl, hn, r, k⟩ := h
    have hr10 : Room 10 _ := hr.mono (by omega)
    refine ⟨_, pss_cons (ps_if (pt_not (pt_val (pe_call GS hr10 (by rfl) mS kS bS .nil pass0 (pa_cons (pv 0) (pa_cons (pv 1) pa_nil))))) (pss_one (ps_ret pe_bl)) pss_nil)
      (pss_cons (ps_if (pt_cmpR op_eq (pe_ix ix_tup (pv 0) pe_int (fun _ _ => rfl)) pe_str (nomark _)) (pss_one (ps_ret (pe_not (pv 2)))) pss_nil)
      (pss_one (ps_ret (pe_and (pe_cmpR op_eq (pe_ix ix_tup (pv 0) pe_int (fun _ _ => rfl)) pe_str (nomark _)) (pe_one (pe_not (pe_call GQ hr (by rfl) mQ kQ bQ .nil pass0 (pa_cons (pe_ix ix_tup (pv 0) pe_int (fun _ _ => rfl)) (pa_cons (pe_op op_add (pv 1) pe_int) pa_nil))))))))), ?_⟩
    have ge : ∀ {a b : Str}, a ≠ b → ¬ decide (V.str a = V.str b) = true := fun h z => h (V.str.inj (of_decide_eq_true z))
    refine ⟨_, rfl, _, rfl, v, d, n, rfl, r, fun H1 s1 => ⟨_, rfl, ?_⟩⟩
    cases hb : soundB n d with
    | false =>
      have e : wrongB f n inr d = true := by unfold wrongB; rw [if_pos hb]
      rw [e] at k
      exact iteT (k H1 s1)
    | true =>
      refine iteF ?_
      have nb : ¬ soundB n d = false := by rw [hb]; decide
      have hs : stmtB d = true := (Bool.and_eq_true_iff.mp (show (stmtB d && (decide (n < 12) || (blocksB d).length == 0)) = true from hb)).1
      obtain ⟨g, l, hk, hg, el⟩ := stmt_inv hs
      obtain ⟨p, xs, rfl, hp, ra⟩ := (el ▸ r : Rp K H v (.tup (.str (headB d) :: l))).tup_inv
      have ll := len_of el
      obtain ⟨v0, x0, r0⟩ := ra.get (i := 0) rfl
      cases r0
      have hp1 := s1 _ _ hp
      refine ⟨_, rfl, p, _, _, _, rfl, rfl, SqT.of hp1, at_of (j := 0) rfl x0, rfl, _, rfl, ?_⟩
      by_cases c1 : headB d = "leave"
      · refine ite2 (fun _ => ?_) (fun z => absurd (decide_eq_true (by rw [c1])) z)
        have e : wrongB f n inr d = !inr := by unfold wrongB; rw [if_neg nb, if_pos c1]
        rw [e] at k
        exact ⟨_, rfl, _, rfl, k H1 s1⟩
      refine ite2 (fun z => absurd z (ge c1)) fun _ => ?_
      refine ⟨_, rfl, p, _, _, _, rfl, rfl, SqT.of hp1, at_of (j := 0) rfl x0, rfl, _, rfl, ?_⟩
      have e : wrongB f n inr d = (decide (headB d = "repeat") && (quietR f (argB d 1)).1) := by unfold wrongB; rw [if_neg nb, if_neg c1]
      rw [e] at k
      by_cases c3 : headB d = "repeat"
      · refine ite2 (fun _ => ?_) (fun z => absurd (decide_eq_true (by rw [c3])) z)
        rw [decide_eq_true c3, Bool.true_and] at k
        obtain ⟨z1, z2⟩ := repeat_len hs c3
        have room : n < 12 := sound_room hb (by unfold blocksB; rw [if_neg (by rw [c3]; decide), if_pos c3]; simp)
        obtain ⟨f', rfl⟩ : ∃ f', f = f' + 1 := ⟨f - 1, by omega⟩
        obtain ⟨v1, x1, r1⟩ := arg_at (i := 1) ra (by rw [← ll, z1]; decide)
        rw [← el] at r1
        exact ⟨_, rfl, p, _, _, _, rfl, rfl, SqT.of hp1, at_of (j := 1) rfl x1, _, rfl, _, _, rfl, rfl, v1, argB d 1, n + 1, rfl, by omega, r1.keep s1, z2, fun H2 s2 => ⟨_, rfl, by rw [Bool.not_not]; exact k H2 (s1.trans s2)⟩⟩
      · refine ite2 (fun z => absurd z (ge c3)) fun _ => ?_
        rw [decide_eq_false c3, Bool.false_and] at k
        exact k H1 s1
end
end Oh
namespace Oh
open PySem PySem.Spec PyProof.Rows L2
/-- an empty tuple -/
def Tup0 (H : Hp) (p : Addr) : Prop := H p = some (.tup [])
def spFirst : Sp := fun vs H Q _ => ∃ B S p, vs = [.ref B, .ref p, .int 1, .bl false] ∧ HomeB H B S ∧ H p = some (.tup []) ∧ ∀ H', Same H H' → Q .non H'
def spCount : Sp := fun vs H Q _ => ∃ B S, vs = [.ref B] ∧ HomeB H B S ∧ ∀ H', Same H H' → Q (.int 1) H'
/-- the rows of the layout: one row, of the path (0,), the statement, none -/
def LaidAt (H : Hp) (L R T S : Addr) : Prop := H L = some (.lst [.ref R]) ∧ H R = some (.tup [.ref T, .ref S, .non]) ∧ H T = some (.tup [.int 0])
def spLaid : Sp := fun vs H Q _ => ∃ B S p, vs = [.ref B, .ref p, .non, .non] ∧ HomeB H B S ∧ H p = some (.tup []) ∧ ∀ L R T H', Same H H' → LaidAt H' L R T S → H L = none → H R = none → H T = none → Q (.ref L) H'
section
variable {P : Program} {w : World} {K : PySem.W.Frag} {mg : Str → Option Value} {base : Heap}
abbrev nFw : List Str := ["block", "path", "depth", "in_repeat", "index", "item", "here", "number", "inner", "repeated", "wrong"]
theorem scFirst : FnScope nFw ["block", "path", "depth", "in_repeat"] (defScope sFirstWrong) := ⟨rfl, rfl, rfl, by decide +kernel, rfl, by decide +kernel, by decide +kernel⟩
theorem ok_first {f fW fB : Addr} {fd fdW fdB : FuncData} (F : Fun K "first_wrong" "first_wrong" sFirstWrong f fd) (T : TxtP mg)
    (GW : FnOk P w K mg base CX0 4 fW fdW ["item", "depth", "in_repeat"] (spSound 3 false)) (kW : PySem.W.keepIn K (.ref fW) = true) (bW : Binds K fdW ["item", "depth", "in_repeat"] []) (mW : mg "_is_wrong" = some (.ref fW))
    (GB : FnOk P w K mg base CX0 1 fB fdB ["statement"] spBlocksOf) (kB : PySem.W.keepIn K (.ref fB) = true) (bB : Binds K fdB ["statement"] []) (mB : mg "blocks_of" = some (.ref fB)) :
    FnOk P w K mg base CX0 5 f fd ["block", "path", "depth", "in_repeat"] spFirst := by
  refine F.ok scFirst (fun vs H Q E h => ?_) (fun cdv A outer s H vs Q E hr h => ?_)
  · obtain ⟨B, S, p, rfl, _⟩ := h
    rfl
  · obtain ⟨B, S, p, rfl, hB, hp, k⟩ := h
    have hr1 : Room 1 _ := hr.mono (by decide)
    refine ⟨_, pss_cons (ps_for PassesOwn.never rfl (pi_enumT (by rfl) T.enum (pa_cons (pv 0) pa_nil)) (pg_tup rfl (pgs_cons (pg_name (i := 4) scFirst.nd rfl (Or.inl rfl)) (pgs_cons (pg_name (i := 5) scFirst.nd rfl (Or.inl rfl)) pgs_nil)))
        (pss_cons (ps_set (i := 6) scFirst.nd rfl (Or.inl rfl) (pe_op op_catA (pv 1) (pe_tup (pa_cons (pv 4) pa_nil))))
        (pss_cons (ps_if (pt_val (pe_call GW hr (by rfl) mW kW bW .nil pass0 (pa_cons (pv 5) (pa_cons (pv 2) (pa_cons (pv 3) pa_nil))))) (pss_one (ps_ret (pv 6))) pss_nil)
        (pss_one (ps_for PassesOwn.never rfl (pi_enum (by rfl) T.enum (pa_cons (pe_call GB hr1 (by rfl) mB kB bB .nil pass0 (pa_cons (pv 5) pa_nil)) pa_nil)) (pg_tup rfl (pgs_cons (pg_name (i := 7) scFirst.nd rfl (Or.inl rfl)) (pgs_cons (pg_name (i := 8) scFirst.nd rfl (Or.inl rfl)) pgs_nil))) pss_never)))))
      (pss_one (ps_ret pe_non)), ?_⟩
    refine ⟨_, rfl, B, _, rfl, SqT.of hB.1, for_it (walk_enumT (xs := [V.ref S])) (fun i σ H' => ∃ x, σ = [some (.ref B), some (.ref p), some (.int 1), some (.bl false)] ++ x ∧ x.length = 7 ∧ Same H H') ⟨_, rfl, rfl, Same.refl H⟩ ?_ ?_ ?_⟩
    · rintro i σ H' _ ⟨x, rfl, _, hS⟩
      exact SqT.of (hS _ _ hB.1)
    · rintro i x σ H1 H2 hi ⟨z, rfl, hz, hS⟩ ⟨Tp, x1, x2, rfl, nT, rfl, e1, e2⟩
      obtain rfl : i = 0 := by have : i < 1 := hi; omega
      obtain rfl := Option.some.inj e1
      obtain rfl := Option.some.inj e2
      match z, hz with
      | [z0, z1, z2, z3, z4, z5, z6], _ =>
      have s2 : Same H (upd H1 Tp (.tup [.int (0 : Nat), .ref S])) := hS.trans (Same.new nT)
      refine ⟨Tp, _, rfl, SqT.of upd_same, rfl, _, _, rfl, _, _, rfl, rfl, ?_⟩
      refine ⟨_, rfl, _, rfl, by decide, fun q nq => ⟨p, q, [], _, rfl, rfl, SqT.of ((Same.new nq) _ _ (s2 _ _ hp)), SqT.of upd_same, by decide, fun _ => ?_, fun z => absurd rfl z, fun z => absurd rfl z⟩⟩
      have s3 := s2.trans (Same.new (o := .tup [.int (0 : Nat)]) nq)
      have hS3 : HomeS _ S := (hB.keep s3).2
      refine ⟨_, rfl, _, rfl, _, rfl, S, rfl, hS3, fun H3 h3 => ⟨_, rfl, iteF ?_⟩⟩
      refine ⟨_, rfl, S, rfl, h3 _ _ hS3, fun L H4 h4 nL eL => ⟨L, [], rfl, SqL.of eL, for_it (walk_enum (xs := [])) (fun i σ H' => ∃ x, σ = [some (.ref B), some (.ref p), some (.int 1), some (.bl false)] ++ x ∧ x.length = 7 ∧ Same H H' ∧ H' L = some (.lst [])) ⟨_, rfl, rfl, s3.trans (h3.trans h4), eL⟩ ?_ ?_ ?_⟩⟩
      · rintro i σ H' _ ⟨x, _, _, _, e⟩
        exact SqL.of e
      · intro i x σ H' H'' hi
        exact absurd hi (Nat.not_lt_zero i)
      · rintro σ H' ⟨x, ex, hx, hS', _⟩
        exact ⟨x, ex, hx, hS'⟩
    · rintro σ H' ⟨x, rfl, hx, hS⟩
      exact k H' hS
abbrev nCo : List Str := ["block", "item", "inner"]
theorem boot_sumO : bootBuiltins "sum" = some (.builtin "sum") := by decide +kernel
theorem scCount : FnScope nCo ["block"] (defScope sCount) := ⟨rfl, rfl, rfl, by decide +kernel, rfl, by decide +kernel, by decide +kernel⟩
theorem ok_count {f fB : Addr} {fd fdB : FuncData} (F : Fun K "count_statements" "count_statements" sCount f fd) (T : TxtP mg)
    (GB : FnOk P w K mg base CX0 1 fB fdB ["statement"] spBlocksOf) (kB : PySem.W.keepIn K (.ref fB) = true) (bB : Binds K fdB ["statement"] []) (mB : mg "blocks_of" = some (.ref fB)) :
    FnOk P w K mg base CX0 4 f fd ["block"] spCount := by
  refine F.ok scCount (fun vs H Q E h => ?_) (fun cdv A outer s H vs Q E hr h => ?_)
  · obtain ⟨B, S, rfl, _⟩ := h
    rfl
  · obtain ⟨B, S, rfl, hB, k⟩ := h
    have hr1 : Room 1 _ := hr.mono (by decide)
    refine ⟨_, pss_one (ps_ret (pe_callB (cr_sum rfl) (by rfl) T.sum boot_sumO (pa_cons
        (pe_lc (own := [("item", 1)]) (g := gName 1) (tt := tYes) rfl scCount.nd (pi_tup (pv 0)) (blkOk_by (N := nCo) (sc := defScope sCount) (by decide +kernel)) (fun _ _ _ _ _ => pg_name (i := 1) scCount.nd rfl (Or.inl rfl)) (fun _ _ _ _ _ => pts_nil)
          (fun s1 H1 C1 cl1 fp1 => pe_op op_add pe_int (pe_callB (r := rSum K) (cr_sum rfl) (by rfl) T.sum boot_sumO (by exact (pa_cons
             (pe_lc (wi := iList K (tCall spBlocksOf [] E0 (tCons (tVar 1) tNil))) (own := [("inner", 2)]) (g := gName 2) (tt := tYes) (te := fun _ _ _ => False) rfl scCount.nd
               (by exact (pi_list (pe_call GB hr1 (by rfl) mB kB bB .nil pass0 (pa_cons (pv 1) pa_nil))))
               (blkOk_by (N := nCo) (by rfl))
               (fun _ _ _ _ _ => pg_name (i := 2) scCount.nd rfl (Or.inl rfl)) (fun _ _ _ _ _ => pts_nil) (fun _ _ _ _ _ => pe_never)) pa_nil))))) pa_nil))), ?_⟩
    refine ⟨_, rfl, B, rfl, ⟨_, SqT.of hB.1⟩, fun D hD => lc_it (walk_tup (xs := [V.ref S])) (fun i H' => Same H H' ∧ H' D = some (.lst (List.replicate i (V.int 1)))) ⟨Same.new hD, upd_same⟩ (fun i H' _ q => SqT.of (q.1 _ _ hB.1)) ?_ ?_⟩
    · rintro i x H1 H2 hi ⟨s1, d1⟩ ⟨e2, ex⟩
      subst e2
      obtain rfl : i = 0 := by have : i < 1 := hi; omega
      obtain rfl := Option.some.inj ex
      refine ⟨rfl, _, rfl, S, rfl, s1 _ _ hB.2, fun L H4 h4 nL eL => ⟨L, rfl, ⟨[], SqL.of eL⟩, fun D2 hD2 => lc_it (te := fun _ _ _ => False) (g := gName 2) (tt := tYes) (vs := [2]) (walk_list (xs := [])) (fun i H' => Same H2 H' ∧ H' L = some (.lst []) ∧ H' D2 = some (.lst [])) ⟨h4.trans (Same.new hD2), (Same.new hD2) _ _ eL, upd_same⟩ (fun i H' _ q => SqL.of q.2.1) ?_ ?_⟩⟩
      · intro i x Ha Hb hi
        exact absurd hi (Nat.not_lt_zero i)
      · rintro H5 ⟨s5, _, d5⟩
        refine ⟨D2, [], rfl, SqL.of d5, _, _, rfl, rfl, _, s5 _ _ d1, (by show 0 < sizeLine; decide), ?_, upd_same⟩
        intro b o e
        rw [upd_ne (ne_of_none e hD)]
        exact s5 _ _ (s1 _ _ e)
    · rintro H5 ⟨s5, d5⟩
      exact ⟨D, [1], rfl, SqL.of d5, k H5 s5⟩
abbrev nLa : List Str := ["block", "path", "behind", "outside", "rows", "index", "statement", "here", "follower", "number", "inner", "start"]
theorem scLaid : FnScope nLa ["block", "path", "behind", "outside"] (defScope sLaid) := ⟨rfl, rfl, rfl, by decide +kernel, rfl, by decide +kernel, by decide +kernel⟩
theorem ok_laid {f fB : Addr} {fd fdB : FuncData} (F : Fun K "laid_out" "laid_out" sLaid f fd) (T : TxtP mg)
    (GB : FnOk P w K mg base CX0 1 fB fdB ["statement"] spBlocksOf) (kB : PySem.W.keepIn K (.ref fB) = true) (bB : Binds K fdB ["statement"] []) (mB : mg "blocks_of" = some (.ref fB)) :
    FnOk P w K mg base CX0 2 f fd ["block", "path", "behind", "outside"] spLaid := by
  refine F.ok scLaid (fun vs H Q E h => ?_) (fun cdv A outer s H vs Q E hr h => ?_)
  · obtain ⟨B, S, p, rfl, _⟩ := h
    rfl
  · obtain ⟨B, S, p, rfl, hB, hp, k⟩ := h
    have hr1 : Room 1 _ := hr.mono (by decide)
    refine ⟨_, pss_cons (ps_set (i := 4) scLaid.nd rfl (Or.inl rfl) (pe_lst pa_nil))
      (pss_cons (ps_for PassesOwn.never rfl (pi_enumT (by rfl) T.enum (pa_cons (pv 0) pa_nil)) (pg_tup rfl (pgs_cons (pg_name (i := 5) scLaid.nd rfl (Or.inl rfl)) (pgs_cons (pg_name (i := 6) scLaid.nd rfl (Or.inl rfl)) pgs_nil)))
        (pss_cons (ps_set (i := 7) scLaid.nd rfl (Or.inl rfl) (pe_op op_catA (pv 1) (pe_tup (pa_cons (pv 5) pa_nil))))
        (pss_cons (ps_set (i := 8) scLaid.nd rfl (Or.inl rfl) (pe_ifExp (pt_cmpR op_lt (pe_op op_add (pv 5) pe_int) (pe_callB call_len_seq (by rfl) T.len boot_len (pa_cons (pv 0) pa_nil)) (nomark _)) pe_never (pv 2)))
        (pss_cons (ps_expr (pe_bm PySem.F.plainAttrs_list PySem.F.slot_list_append PySem.F.type_list_append mt_append (pv 4)
            (pa_cons (pe_tup (pa_cons (pv 7) (pa_cons (pv 6) (pa_cons (pe_ifExp (pt_cmpR op_eq (pe_ix ix_tup (pv 6) pe_int (fun _ _ => rfl)) pe_str (nomark _)) (pv 3) (pv 8)) pa_nil)))) pa_nil)))
        (pss_one (ps_for PassesOwn.never rfl (pi_enum (by rfl) T.enum (pa_cons (pe_call GB hr1 (by rfl) mB kB bB .nil pass0 (pa_cons (pv 6) pa_nil)) pa_nil)) (pg_tup rfl (pgs_cons (pg_name (i := 9) scLaid.nd rfl (Or.inl rfl)) (pgs_cons (pg_name (i := 10) scLaid.nd rfl (Or.inl rfl)) pgs_nil))) pss_never))))))
      (pss_one (ps_ret (pv 4)))), ?_⟩
    refine ⟨by decide, fun L nL => ?_⟩
    refine ⟨_, rfl, B, _, rfl, SqT.of ((Same.new nL) _ _ hB.1), for_it (walk_enumT (xs := [V.ref S])) (fun i σ H' => ∃ x, σ = [some (.ref B), some (.ref p), some .non, some .non, some (.ref L)] ++ x ∧ x.length = 7 ∧ Same H H' ∧ (i = 0 → H' L = some (.lst [])) ∧ (i = 1 → ∃ R T, LaidAt H' L R T S ∧ H R = none ∧ H T = none))
      ⟨_, rfl, rfl, Same.new nL, fun _ => upd_same, fun z => absurd z (by decide)⟩ ?_ ?_ ?_⟩
    · rintro i σ H' _ ⟨x, ex, _, hS, _⟩
      exact SqT.of (hS _ _ hB.1)
    · rintro i x σ H1 H2 hi ⟨z, ez, hz, hS, hL, _⟩ ⟨Tp, x1, x2, rfl, nT, rfl, e1, e2⟩
      obtain rfl : i = 0 := by have : i < 1 := hi; omega
      obtain rfl := Option.some.inj e1
      obtain rfl := Option.some.inj e2
      subst ez
      have hL := hL rfl
      match z, hz with
      | [z0, z1, z2, z3, z4, z5, z6], _ =>
      have s2 : Same H1 (upd H1 Tp (.tup [.int (0 : Nat), .ref S])) := Same.new nT
      refine ⟨Tp, _, rfl, SqT.of upd_same, rfl, _, _, rfl, _, _, rfl, rfl, ?_⟩
      refine ⟨_, rfl, _, rfl, by decide, fun q nq => ⟨p, q, [], _, rfl, rfl, SqT.of ((Same.new nq) _ _ (s2 _ _ (hS _ _ hp))), SqT.of upd_same, by decide, fun _ => ?_, fun z => absurd rfl z, fun z => absurd rfl z⟩⟩
      have s3 := s2.trans (Same.new (o := .tup [.int (0 : Nat)]) nq)
      have nq' : H q = none := (hS.trans s2).free nq
      have hB3 := (hB.keep (hS.trans s3))
      refine ⟨_, rfl, _, _, rfl, rfl, _, rfl, B, _, rfl, .inr (SqT.of hB3.1), _, _, rfl, rfl, _, rfl, ite2 (fun z => by simp at z) fun _ => ?_⟩
      refine ⟨_, rfl, ?_⟩
      refine ⟨_, rfl, .inl ⟨rfl, _, SqL.of (s3 _ _ hL)⟩, ?_⟩
      refine ⟨_, rfl, _, rfl, _, rfl, S, _, _, _, rfl, rfl, SqT.of hB3.2, rfl, rfl, _, rfl, ite2 (fun z => absurd z (by decide)) fun _ => ?_⟩
      refine ⟨_, rfl, (by show 3 ≤ sizeLine; decide), fun R nR => ?_⟩
      have s4 := s3.trans (Same.new (o := .tup [.ref q, .ref S, .non]) nR)
      have nR' : H R = none := (hS.trans s3).free nR
      have hL4 := s4 _ _ hL
      have hq4 : upd (upd (upd H1 Tp (.tup [.int (0 : Nat), .ref S])) q (.tup [.int (0 : Nat)])) R (.tup [.ref q, .ref S, .non]) q = some (.tup [.int (0 : Nat)]) := (Same.new nR) _ _ upd_same
      have hR4 : upd (upd (upd H1 Tp (.tup [.int (0 : Nat), .ref S])) q (.tup [.int (0 : Nat)])) R (.tup [.ref q, .ref S, .non]) R = some (.tup [.ref q, .ref S, .non]) := upd_same
      have qL : q ≠ L := fun z => by subst z; cases hq4.symm.trans hL4
      have RL : R ≠ L := fun z => by subst z; cases hR4.symm.trans hL4
      refine ⟨L, [], _, rfl, rfl, hL4, (by show 0 < sizeLine; decide), ?_⟩
      have s5 : Same H (upd (upd (upd (upd H1 Tp (.tup [.int (0 : Nat), .ref S])) q (.tup [.int (0 : Nat)])) R (.tup [.ref q, .ref S, .non])) L (.lst [.ref R])) := fun b o e => by
        rw [upd_ne (ne_of_none e nL)]
        exact hS.trans s4 _ _ e
      have la : LaidAt (upd (upd (upd (upd H1 Tp (.tup [.int (0 : Nat), .ref S])) q (.tup [.int (0 : Nat)])) R (.tup [.ref q, .ref S, .non])) L (.lst [.ref R])) L R q S :=
        ⟨upd_same, by rw [upd_ne RL]; exact hR4, by rw [upd_ne qL]; exact hq4⟩
      refine ⟨_, rfl, S, rfl, s5 _ _ hB.2, fun L2 H5 h5 nL2 eL2 => ⟨L2, [], rfl, SqL.of eL2, for_it (walk_enum (xs := [])) (fun i σ H' => (∃ x, σ = [some (.ref B), some (.ref p), some .non, some .non, some (.ref L)] ++ x ∧ x.length = 7) ∧ Same H H' ∧ LaidAt H' L R q S ∧ H' L2 = some (.lst []))
        ⟨⟨_, rfl, rfl⟩, s5.trans h5, ⟨h5 _ _ la.1, h5 _ _ la.2.1, h5 _ _ la.2.2⟩, eL2⟩ ?_ ?_ ?_⟩⟩
      · rintro i σ H' _ ⟨_, _, _, e⟩
        exact SqL.of e
      · intro i x σ H' H'' hi
        exact absurd hi (Nat.not_lt_zero i)
      · rintro σ H' ⟨⟨x, ex, hx⟩, hS', la', _⟩
        exact ⟨x, ex, hx, hS', fun z => absurd z (by decide), fun _ => ⟨R, q, la', nR', nq'⟩⟩
    · rintro σ H' ⟨x, ex, hx, hS, _, hR⟩
      obtain ⟨R, T', hA, nR, nT⟩ := hR rfl
      subst ex
      exact ⟨_, rfl, k L R T' H' hS hA nL nR nT⟩
end
end Oh
namespace Oh
open PySem PySem.Spec PyProof.Rows L2 PpSet
theorem cat_path {K : PySem.W.Frag} {H : Hp} {p q : Addr} {path : List Nat} {i : Nat} {Q : VK} (hp : H p = some (.tup (pathV path))) (hq : H q = some (.tup [.int (i : Int)])) (small : path.length ≤ 1000) (k : ∀ r H', Same H H' → H' r = some (.tup (pathV (path ++ [i]))) → Q (.ref r) H') :
    rCatA K (.ref p) (.ref q) H Q := by
  have e : pathV (path ++ [i]) = pathV path ++ [V.int (i : Int)] := by show List.map _ _ = _; rw [List.map_append]; rfl
  refine ⟨p, q, pathV path, [.int (i : Int)], rfl, rfl, SqT.of hp, SqT.of hq, ?_, fun z => ?_, fun _ z => absurd z (by simp), fun _ _ r nr => ?_⟩
  · show (List.map _ path).length + 1 ≤ sizeLine
    rw [List.length_map]
    exact Nat.le_trans (show path.length + 1 ≤ 1001 by omega) (by decide)
  · have z' : path = [] := by
      cases path with
      | nil => rfl
      | cons a b => cases z
    subst z'
    exact k q H (Same.refl H) hq
  · refine k r _ (Same.new nr) ?_
    rw [upd_same, e]
section
variable {P : Program} {w : World} {K : PySem.W.Frag} {mg : Str → Option Value} {base : Heap} {kw pk ck : Addr}
theorem first_step {f : Nat} {fF fW fB : Addr} {fdF fdW fdB : FuncData} (F : Fun K "first_wrong" "first_wrong" sFirstWrong fF fdF) (T : TxtP mg)
    (GW : FnOk P w K mg base CX0 (12 + 2 * f) fW fdW ["item", "depth", "in_repeat"] (spWrong K f)) (kW : PySem.W.keepIn K (.ref fW) = true) (bW : Binds K fdW ["item", "depth", "in_repeat"] []) (mW : mg "_is_wrong" = some (.ref fW))
    (GB : FnOk P w K mg base CX0 1 fB fdB ["statement"] (spBlocks K)) (kB : PySem.W.keepIn K (.ref fB) = true) (bB : Binds K fdB ["statement"] []) (mB : mg "blocks_of" = some (.ref fB))
    (GP : FnOk P w K mg base CX0 (12 + 2 * f) fF fdF ["block", "path", "depth", "in_repeat"] (spFirstP K f)) (bF : Binds K fdF ["block", "path", "depth", "in_repeat"] []) (mF : mg "first_wrong" = some (.ref fF)) :
    FnOk P w K mg base CX0 (12 + 2 * f + 1) fF fdF ["block", "path", "depth", "in_repeat"] (spFirstD K f) := by
  refine F.ok scFirst (fun vs H Q E h => ?_) (fun cdv A outer s H vs Q E hr h => ?_)
  · obtain ⟨v, d, p, path, n, inr, rfl, _⟩ := h
    rfl
  · obtain ⟨v, d, p, path, n, inr, rfl, hn, r, hb, hp, small, k⟩ := h
    have hr1 : Room 1 _ := hr.mono (by omega)
    obtain ⟨l, rfl, ll⟩ := block_inv hb
    obtain ⟨B, xs, rfl, hB, ra⟩ := r.tup_inv
    have hl := ra.len
    have en : 12 - f = n := by omega
    refine ⟨_, pss_cons (ps_for PassesOwn.never rfl (pi_enumT (by rfl) T.enum (pa_cons (pv 0) pa_nil)) (pg_tup rfl (pgs_cons (pg_name (i := 4) scFirst.nd rfl (Or.inl rfl)) (pgs_cons (pg_name (i := 5) scFirst.nd rfl (Or.inl rfl)) pgs_nil)))
        (pss_cons (ps_set (i := 6) scFirst.nd rfl (Or.inl rfl) (pe_op op_catA (pv 1) (pe_tup (pa_cons (pv 4) pa_nil))))
        (pss_cons (ps_if (pt_val (pe_call GW hr (by rfl) mW kW bW .nil pass0 (pa_cons (pv 5) (pa_cons (pv 2) (pa_cons (pv 3) pa_nil))))) (pss_one (ps_ret (pv 6))) pss_nil)
        (pss_one (ps_for PassesOwn.never rfl (pi_enum (by rfl) T.enum (pa_cons (pe_call GB hr1 (by rfl) mB kB bB .nil pass0 (pa_cons (pv 5) pa_nil)) pa_nil)) (pg_tup rfl (pgs_cons (pg_name (i := 7) scFirst.nd rfl (Or.inl rfl)) (pgs_cons (pg_name (i := 8) scFirst.nd rfl (Or.inl rfl)) pgs_nil)))
          (pss_cons (ps_set (i := 9) scFirst.nd rfl (Or.inl rfl) (pe_or (pv 3) (pe_one (pe_cmpR op_eq (pe_ix ix_tup (pv 5) pe_int (fun _ _ => rfl)) pe_str (nomark _)))))
          (pss_cons (ps_set (i := 10) scFirst.nd rfl (Or.inl rfl) (pe_call GP hr (by rfl) mF F.kp bF .nil pass0 (pa_cons (pv 8) (pa_cons (pe_op op_catA (pv 6) (pe_tup (pa_cons (pv 7) pa_nil))) (pa_cons (pe_op op_add (pv 2) pe_int) (pa_cons (pv 9) pa_nil))))))
          (pss_one (ps_if (pt_cmpR op_notN (pv 10) pe_non (nomark _)) (pss_one (ps_ret (pv 10))) pss_nil)))))))))
      (pss_one (ps_ret pe_non)), ?_⟩
    refine ⟨_, rfl, B, xs, rfl, SqT.of hB, for_it (walk_enumT (xs := xs)) (fun i σ H' => ∃ x, σ = [some (.ref B), some (.ref p), some (.int (n : Int)), some (.bl inr)] ++ x ∧ x.length = 7 ∧ Same H H' ∧ firstB f (.tup l) path inr = goItems (firstR f) f n path inr (l.drop i) i)
      ⟨_, rfl, rfl, Same.refl H, by show goItems (firstR f) f (12 - f) path inr l 0 = _; rw [en]; rfl⟩ ?_ ?_ ?_⟩
    · rintro i σ H' _ ⟨x, _, _, s', _⟩
      exact SqT.of (s' _ _ hB)
    · rintro i x σ H1 H2 hi ⟨z, ez, hz, s1, e⟩ ⟨Tp, x1, x2, rfl, nT, rfl, e1, e2⟩
      obtain rfl := Option.some.inj e1
      have li : i < l.length := by rw [← hl]; exact hi
      obtain ⟨vi, ev, rv⟩ := ra.get (i := i) (d := l[i]) (List.getElem?_eq_getElem li)
      obtain rfl := Option.some.inj (ev.symm.trans e2)
      have dr : l.drop i = l[i] :: l.drop (i + 1) := List.drop_eq_getElem_cons li
      rw [dr] at e
      generalize hd : l[i] = d at e rv
      subst ez
      match z, hz with
      | [z0, z1, z2, z3, z4, z5, z6], _ =>
      have s2 : Same H (upd H1 Tp (.tup [.int (i : Nat), vi])) := s1.trans (Same.new nT)
      refine ⟨Tp, _, rfl, SqT.of upd_same, rfl, _, _, rfl, _, _, rfl, rfl, ?_⟩
      refine ⟨_, rfl, _, rfl, (by show 1 ≤ sizeLine; decide), fun q nq => cat_path (path := path) (i := i) ((Same.new nq) _ _ (s2 _ _ hp)) upd_same (by omega) fun here H3 s3 hh => ?_⟩
      have s03 : Same H H3 := s2.trans ((Same.new nq).trans s3)
      refine ⟨_, rfl, _, rfl, _, rfl, vi, d, n, inr, rfl, hn, rv.keep s03, fun H4 s4 => ⟨_, rfl, ?_⟩⟩
      have s04 := s03.trans s4
      have e' : firstB f (.tup l) path inr = if wrongB f n inr d = true then some (path ++ [i]) else match goBlocks (firstR f) (path ++ [i]) (inr || decide (headB d = "repeat")) (blocksB d) 0 with
        | some w => some w
        | none => goItems (firstR f) f n path inr (l.drop (i + 1)) (i + 1) := e
      cases hw : wrongB f n inr d with
      | true =>
        rw [hw, if_pos rfl] at e'
        refine iteT ⟨_, rfl, k _ H4 s04 ?_⟩
        rw [e']
        exact ⟨here, rfl, s4 _ _ hh⟩
      | false =>
        refine iteF ?_
        rw [hw, if_neg (by decide)] at e'
        have hb : soundB n d = true := by
          cases hb : soundB n d with
          | true => rfl
          | false => rw [show wrongB f n inr d = true by unfold wrongB; rw [if_pos hb]] at hw; cases hw
        have hs : stmtB d = true := (Bool.and_eq_true_iff.mp (show (stmtB d && (decide (n < 12) || (blocksB d).length == 0)) = true from hb)).1
        obtain ⟨bk, b4⟩ := blocks_ok hs
        generalize hrep : (inr || decide (headB d = "repeat")) = rep at e'
        refine ⟨_, rfl, vi, d, rfl, rv.keep s04, hs, fun L H5 ys s5 nL hL rb => ?_⟩
        have s05 := s04.trans s5
        refine ⟨L, ys, rfl, SqL.of hL, for_it (walk_enum (xs := ys)) (fun j σ H' => (∃ x, σ = [some (.ref B), some (.ref p), some (.int (n : Int)), some (.bl inr), some (.int (i : Nat)), some vi, some (.ref here)] ++ x ∧ x.length = 4) ∧ Same H5 H' ∧
          firstB f (.tup l) path inr = match goBlocks (firstR f) (path ++ [i]) rep ((blocksB d).drop j) j with
            | some w => some w
            | none => goItems (firstR f) f n path inr (l.drop (i + 1)) (i + 1)) ⟨⟨_, rfl, rfl⟩, Same.refl H5, e'⟩ ?_ ?_ ?_⟩
        · rintro j σ H' _ ⟨_, s', _⟩
          exact SqL.of (s' _ _ hL)
        · rintro j x σ H6 H7 hj ⟨⟨y, ey, hy⟩, s6, ej⟩ ⟨Tq, y1, y2, rfl, nTq, rfl, g1, g2⟩
          obtain rfl := Option.some.inj g1
          have lj : j < (blocksB d).length := by rw [← rb.len]; exact hj
          obtain ⟨vb, evb, rvb⟩ := rb.get (i := j) (d := (blocksB d)[j]) (List.getElem?_eq_getElem lj)
          obtain rfl := Option.some.inj (evb.symm.trans g2)
          have room : n < 12 := sound_room hb (by omega)
          obtain ⟨f', rfl⟩ : ∃ f', f = f' + 1 := ⟨f - 1, by omega⟩
          have drj : (blocksB d).drop j = (blocksB d)[j] :: (blocksB d).drop (j + 1) := List.drop_eq_getElem_cons lj
          rw [drj] at ej
          have bkj := bk _ (List.getElem_mem lj)
          generalize (blocksB d)[j] = db at ej rvb bkj
          subst ey
          match y, hy with
          | [y0, y1, y2, y3], _ =>
          have s7 : Same H (upd H6 Tq (.tup [.int (j : Nat), vb])) := s05.trans (s6.trans (Same.new nTq))
          have s57 : Same H5 (upd H6 Tq (.tup [.int (j : Nat), vb])) := s6.trans (Same.new nTq)
          refine ⟨Tq, _, rfl, SqT.of upd_same, rfl, _, _, rfl, _, _, rfl, rfl, ?_⟩
          obtain ⟨g', l', _, _, el⟩ := stmt_inv hs
          obtain ⟨pi, xi, rfl, hpi, rai⟩ := (el ▸ rv : Rp K H vi (.tup (.str (headB d) :: l'))).tup_inv
          obtain ⟨v0, x0, r0⟩ := rai.get (i := 0) rfl
          cases r0
          have dc : decide (V.str (headB d) = V.str "repeat") = decide (headB d = "repeat") := by
            by_cases c : headB d = "repeat"
            · rw [decide_eq_true c, decide_eq_true (by rw [c])]
            · rw [decide_eq_false c, decide_eq_false (fun z => c (V.str.inj z))]
          have hh5 := s57 _ _ (s5 _ _ (s4 _ _ hh))
          cases inr
          rotate_left
          have er : rep = true := hrep.symm
          subst er
          refine ⟨_, rfl, _, rfl, iteT ?_⟩
          rotate_left
          have er : rep = decide (headB d = "repeat") := by rw [← hrep, Bool.false_or]
          refine ⟨_, rfl, _, rfl, iteF ⟨_, rfl, pi, _, _, _, rfl, rfl, SqT.of (s7 _ _ hpi), at_of (j := 0) rfl x0, rfl, ?_⟩⟩
          rw [dc, ← er]
          all_goals
            refine ⟨_, rfl, _, rfl, _, rfl, (by show 1 ≤ sizeLine; decide), fun q2 nq2 => cat_path (path := path ++ [i]) (i := j) ((Same.new nq2) _ _ hh5) upd_same (by rw [List.length_append, List.length_singleton]; omega) fun r2 H8 s8 hr2 => ?_⟩
            have s68 : Same (upd H6 Tq (.tup [.int (j : Nat), vb])) H8 := (Same.new nq2).trans s8
            refine ⟨_, rfl, _, _, rfl, rfl, _, rfl, vb, db, r2, path ++ [i] ++ [j], n + 1, _, rfl, by omega, rvb.keep (s57.trans s68), bkj, hr2, (by rw [List.length_append, List.length_append, List.length_singleton, List.length_singleton]; omega), fun v' H9 s9 hv => ?_⟩
            have s89 := s68.trans s9
            have ej' := ej
            unfold goBlocks at ej'
            generalize hres : firstB f' db (path ++ [i] ++ [j]) _ = res at hv
            rw [show firstR (f' + 1) db (path ++ [i] ++ [j]) _ = res from hres] at ej'
            cases res with
            | none =>
              have hv : v' = .non := hv
              subst hv
              refine ⟨_, rfl, rfl, _, rfl, ite2 (fun z => absurd z (by decide)) fun _ => ⟨⟨_, rfl, rfl⟩, s57.trans s89, ej'⟩⟩
            | some w =>
              obtain ⟨pw, rfl, hpw⟩ := (show ∃ pw, v' = .ref pw ∧ H9 pw = some (.tup (pathV w)) from hv)
              refine ⟨_, rfl, rfl, _, rfl, ite2 (fun _ => ⟨_, rfl, k _ H9 (s7.trans s89) ?_⟩) (fun z => absurd rfl z)⟩
              rw [ej']
              exact ⟨pw, rfl, hpw⟩
        · rintro σ H' ⟨⟨x, ex, hx⟩, s', ej⟩
          rw [show (blocksB d).drop ys.length = [] by rw [rb.len]; exact List.drop_length] at ej
          refine ⟨[some (.int (i : Nat)), some vi, some (.ref here)] ++ x, by rw [ex]; rfl, by rw [List.length_append, hx]; rfl, s05.trans s', ej⟩
    · rintro σ H1 ⟨x, ex, hx, s1, e⟩
      rw [show l.drop xs.length = [] by rw [hl]; exact List.drop_length] at e
      refine k _ H1 s1 ?_
      rw [e]
      rfl
end
end Oh
namespace Oh
open PySem PySem.Spec PyProof.Rows L2 PpSet
/-- all the items of a block, f levels below, are sound and right: what first_wrong says by none -/
abbrev rightB (f n : Nat) (b : DT) : Prop := firstB f b [] false = none
/-- how many statements -/
def countR : Nat → DT → Nat
  | 0 => fun _ => 0
  | f + 1 => fun b => ((listB b).map fun d => 1 + ((blocksB d).map (countR f)).sum).sum
abbrev countB (f : Nat) : DT → Nat := countR (f + 1)
/-- a block of statements, f levels below at most -/
def goodR : Nat → DT → Bool
  | 0 => fun _ => false
  | f + 1 => fun b => blockB b && (listB b).all fun d => stmtB d && (blocksB d).all (goodR f)
abbrev goodB (f : Nat) : DT → Bool := goodR (f + 1)
def spCountD (K : PySem.W.Frag) (f : Nat) : Sp := fun vs H Q _ => ∃ v d, vs = [v] ∧ Rp K H v d ∧ goodB f d = true ∧ ∀ H', Same H H' → Q (.int (countB f d : Nat)) H'
def spCountP (K : PySem.W.Frag) : Nat → Sp
  | 0 => fun _ _ _ _ => False
  | f + 1 => spCountD K f
theorem good_inv {f : Nat} {d : DT} (h : goodB f d = true) : ∃ l, d = .tup l ∧ l.length ≤ 12 ∧ ∀ x ∈ l, stmtB x = true ∧ ∀ b ∈ blocksB x, goodR f b = true := by
  have h : (blockB d && (listB d).all fun d => stmtB d && (blocksB d).all (goodR f)) = true := h
  obtain ⟨h1, h2⟩ := Bool.and_eq_true_iff.mp h
  obtain ⟨l, rfl, ll⟩ := block_inv h1
  refine ⟨l, rfl, ll, fun x mx => ?_⟩
  obtain ⟨h3, h4⟩ := Bool.and_eq_true_iff.mp (List.all_eq_true.mp h2 x mx)
  exact ⟨h3, fun b mb => List.all_eq_true.mp h4 b mb⟩
/-- first_wrong finds nothing: all is good -/
theorem goBlocks_none {rec : DT → List Nat → Bool → Option (List Nat)} {here : List Nat} {rep : Bool} : ∀ (bs : List DT) (j : Nat), goBlocks rec here rep bs j = none → ∀ b ∈ bs, ∃ j', rec b (here ++ [j']) rep = none
  | [], _, _, b, mb => by cases mb
  | b0 :: bs, j, h, b, mb => by
    unfold goBlocks at h
    cases e : rec b0 (here ++ [j]) rep with
    | some w => rw [e] at h; cases h
    | none =>
      rw [e] at h
      rcases List.mem_cons.mp mb with rfl | mb
      · exact ⟨j, e⟩
      · exact goBlocks_none bs (j + 1) h b mb
theorem goItems_none {rec : DT → List Nat → Bool → Option (List Nat)} {f n : Nat} {path : List Nat} {inr : Bool} : ∀ (ds : List DT) (i : Nat), goItems rec f n path inr ds i = none → ∀ d ∈ ds, wrongB f n inr d = false ∧ ∃ i', goBlocks rec (path ++ [i']) (inr || decide (headB d = "repeat")) (blocksB d) 0 = none
  | [], _, _, d, md => by cases md
  | d0 :: ds, i, h, d, md => by
    unfold goItems at h
    cases e : wrongB f n inr d0 with
    | true => rw [e, if_pos rfl] at h; cases h
    | false =>
      rw [e, if_neg (by decide)] at h
      cases e2 : goBlocks rec (path ++ [i]) (inr || decide (headB d0 = "repeat")) (blocksB d0) 0 with
      | some w => rw [e2] at h; cases h
      | none =>
        rw [e2] at h
        rcases List.mem_cons.mp md with rfl | md
        · exact ⟨e, i, e2⟩
        · exact goItems_none ds (i + 1) h d md
theorem wrong_stmt {f n : Nat} {inr : Bool} {d : DT} (h : wrongB f n inr d = false) : stmtB d = true ∧ soundB n d = true := by
  have hb : soundB n d = true := by
    cases hb : soundB n d with
    | true => rfl
    | false => rw [show wrongB f n inr d = true by unfold wrongB; rw [if_pos hb]] at h; cases h
  exact ⟨(Bool.and_eq_true_iff.mp (show (stmtB d && (decide (n < 12) || (blocksB d).length == 0)) = true from hb)).1, hb⟩
theorem first_good : ∀ (f : Nat) (d : DT) (path : List Nat) (inr : Bool), f ≤ 12 → blockB d = true → firstB f d path inr = none → goodB f d = true
  | f, d, path, inr, hf, hb, h => by
    have h : goItems (firstR f) f (12 - f) path inr (listB d) 0 = none := h
    show (blockB d && (listB d).all fun d => stmtB d && (blocksB d).all (goodR f)) = true
    rw [hb, Bool.true_and, List.all_eq_true]
    intro x mx
    obtain ⟨hw, i', hg⟩ := goItems_none _ _ h x mx
    obtain ⟨hs, hso⟩ := wrong_stmt hw
    rw [hs, Bool.true_and, List.all_eq_true]
    intro b mb
    obtain ⟨bk, _⟩ := blocks_ok hs
    have room : 12 - f < 12 := sound_room hso (fun z => by
      have : blocksB x = [] := List.length_eq_zero_iff.mp z
      rw [this] at mb
      cases mb)
    match f, hf, room, hg with
    | f' + 1, hf, room, hg =>
      obtain ⟨j, hj⟩ := goBlocks_none _ _ hg b mb
      exact first_good f' b _ _ (by omega) (bk b mb) hj
section
variable {P : Program} {w : World} {K : PySem.W.Frag} {mg : Str → Option Value} {base : Heap} {kw pk ck : Addr}
theorem ok_firstD {fF fW fB fQ fS fD : Addr} {fdF fdW fdB fdQ fdS fdD : FuncData} (F : Fun K "first_wrong" "first_wrong" sFirstWrong fF fdF) (T : TxtP mg) (FW : Fun K "_is_wrong" "_is_wrong" sIsWrong fW fdW)
    (GS : FnOk P w K mg base CX0 10 fS fdS ["item", "depth"] (spSoundD K)) (kS : PySem.W.keepIn K (.ref fS) = true) (bS : Binds K fdS ["item", "depth"] []) (mS : mg "_is_sound" = some (.ref fS))
    (GQ : ∀ f, FnOk P w K mg base CX0 (12 + 2 * f) fQ fdQ ["block", "depth"] (spQuiet K f)) (kQ : PySem.W.keepIn K (.ref fQ) = true) (bQ : Binds K fdQ ["block", "depth"] []) (mQ : mg "_quiet_ways" = some (.ref fQ))
    (FD : Fun K "deals" "deals" sDeals fD fdD) (bD : Binds K fdD ["block", "depth"] []) (mD : mg "deals" = some (.ref fD))
    (bW : Binds K fdW ["item", "depth", "in_repeat"] []) (mW : mg "_is_wrong" = some (.ref fW))
    (GB : FnOk P w K mg base CX0 1 fB fdB ["statement"] (spBlocks K)) (kB : PySem.W.keepIn K (.ref fB) = true) (bB : Binds K fdB ["statement"] []) (mB : mg "blocks_of" = some (.ref fB))
    (bF : Binds K fdF ["block", "path", "depth", "in_repeat"] []) (mF : mg "first_wrong" = some (.ref fF)) : ∀ f, FnOk P w K mg base CX0 (13 + 2 * f) fF fdF ["block", "path", "depth", "in_repeat"] (spFirstD K f)
  | 0 => (first_step (f := 0) F T ((ok_isWrongD (f := 0) FW GS kS bS mS (dealsP FD GQ kQ bQ mQ) FD.kp bD mD).mono (by omega)) FW.kp bW mW GB kB bB mB never_ok bF mF).mono (by omega)
  | f + 1 => (first_step (f := f + 1) F T ((ok_isWrongD (f := f + 1) FW GS kS bS mS (dealsP FD GQ kQ bQ mQ) FD.kp bD mD).mono (by omega)) FW.kp bW mW GB kB bB mB ((ok_firstD F T FW GS kS bS mS GQ kQ bQ mQ FD bD mD bW mW GB kB bB mB bF mF f).mono (by omega)) bF mF).mono (by omega)
end
end Oh
namespace Oh
open PySem PySem.Spec PyProof.Rows L2 PpSet
abbrev intsV (l : List Nat) : List V := (l.map fun n : Nat => (n : Int)).map V.int
theorem sum_cast : ∀ l : List Nat, (l.map fun n : Nat => (n : Int)).sum = ((l.sum : Nat) : Int)
  | [] => rfl
  | a :: l => by
    rw [List.map_cons, List.sum_cons, List.sum_cons, sum_cast l]
    omega
theorem ints_take {l : List Nat} {i c : Nat} (h : l[i]? = some c) : intsV (l.take (i + 1)) = intsV (l.take i) ++ [V.int (c : Int)] := by
  show List.map _ (List.map _ _) = _
  rw [List.take_add_one, h, List.map_append, List.map_append]
  rfl
section
variable {P : Program} {w : World} {K : PySem.W.Frag} {mg : Str → Option Value} {base : Heap} {kw pk ck : Addr}
theorem count_step {f : Nat} {fC fB : Addr} {fdC fdB : FuncData} (F : Fun K "count_statements" "count_statements" sCount fC fdC) (T : TxtP mg)
    (GB : FnOk P w K mg base CX0 1 fB fdB ["statement"] (spBlocks K)) (kB : PySem.W.keepIn K (.ref fB) = true) (bB : Binds K fdB ["statement"] []) (mB : mg "blocks_of" = some (.ref fB))
    (GP : FnOk P w K mg base CX0 (1 + f) fC fdC ["block"] (spCountP K f)) (bC : Binds K fdC ["block"] []) (mC : mg "count_statements" = some (.ref fC)) : FnOk P w K mg base CX0 (1 + f + 1) fC fdC ["block"] (spCountD K f) := by
  refine F.ok scCount (fun vs H Q E h => ?_) (fun cdv A outer s H vs Q E hr h => ?_)
  · obtain ⟨v, d, rfl, _⟩ := h
    rfl
  · obtain ⟨v, d, rfl, r, hg, k⟩ := h
    have hr1 : Room 1 _ := hr.mono (by omega)
    obtain ⟨l, rfl, ll, good⟩ := good_inv hg
    obtain ⟨B, xs, rfl, hB, ra⟩ := r.tup_inv
    have hl := ra.len
    refine ⟨_, pss_one (ps_ret (pe_callB (cr_sum rfl) (by rfl) T.sum boot_sumO (pa_cons
        (pe_lc (own := [("item", 1)]) (g := gName 1) (tt := tYes) rfl scCount.nd (pi_tup (pv 0)) (blkOk_by (N := nCo) (sc := defScope sCount) (by decide +kernel)) (fun _ _ _ _ _ => pg_name (i := 1) scCount.nd rfl (Or.inl rfl)) (fun _ _ _ _ _ => pts_nil)
          (fun s1 H1 C1 cl1 fp1 => pe_op op_add pe_int (pe_callB (r := rSum K) (cr_sum rfl) (by rfl) T.sum boot_sumO (by exact (pa_cons
             (pe_lc (wi := iList K (tCall (spBlocks K) [] E0 (tCons (tVar 1) tNil))) (own := [("inner", 2)]) (g := gName 2) (tt := tYes) (te := tCall (spCountP K f) [] E0 (tCons (tVar 2) tNil)) rfl scCount.nd
               (by exact (pi_list (pe_call GB hr1 (by rfl) mB kB bB .nil pass0 (pa_cons (pv 1) pa_nil))))
               (blkOk_by (N := nCo) (by rfl))
               (fun _ _ _ _ _ => pg_name (i := 2) scCount.nd rfl (Or.inl rfl)) (fun _ _ _ _ _ => pts_nil) (fun _ _ _ _ _ => by exact (pe_call GP hr (by rfl) mC F.kp bC .nil pass0 (pa_cons (pv 2) pa_nil)))) pa_nil))))) pa_nil))), ?_⟩
    refine ⟨_, rfl, B, rfl, ⟨_, SqT.of hB⟩, fun D hD => lc_it (walk_tup (xs := xs)) (fun i H' => Same H H' ∧ H' D = some (.lst (intsV ((l.map fun d => 1 + ((blocksB d).map (countR f)).sum).take i)))) ⟨Same.new hD, upd_same⟩ (fun i H' _ q => SqT.of (q.1 _ _ hB)) ?_ ?_⟩
    · rintro i x H1 H2 hi ⟨s1, d1⟩ ⟨e2, ex⟩
      subst e2
      have li : i < l.length := by rw [← hl]; exact hi
      obtain ⟨vi, ev, rv⟩ := ra.get (i := i) (d := l[i]) (List.getElem?_eq_getElem li)
      obtain rfl := Option.some.inj (ev.symm.trans ex)
      obtain ⟨hs, hin⟩ := good _ (List.getElem_mem li)
      obtain ⟨bk, b4⟩ := blocks_ok hs
      have lc : (l.map fun d => 1 + ((blocksB d).map (countR f)).sum)[i]? = some (1 + ((blocksB l[i]).map (countR f)).sum) := by rw [List.getElem?_map, List.getElem?_eq_getElem li]; rfl
      refine ⟨rfl, _, rfl, vi, l[i], rfl, rv.keep s1, hs, fun L H4 ys h4 nL eL rb => ⟨L, rfl, ⟨_, SqL.of eL⟩, fun D2 hD2 => lc_it (te := tCall (spCountP K f) [] E0 (tCons (tVar 2) tNil)) (g := gName 2) (tt := tYes) (vs := [2]) (walk_list (xs := ys)) (fun j H' => Same H4 H' ∧ H' D2 = some (.lst (intsV (((blocksB l[i]).map (countR f)).take j)))) ⟨Same.new hD2, upd_same⟩ (fun j H' _ q => SqL.of (q.1 _ _ eL)) ?_ ?_⟩⟩
      · rintro j x Ha Hb hj ⟨sa, da⟩ ⟨e, exj⟩
        subst e
        have lj : j < (blocksB l[i]).length := by rw [← rb.len]; exact hj
        obtain ⟨vb, evb, rvb⟩ := rb.get (i := j) (d := (blocksB l[i])[j]) (List.getElem?_eq_getElem lj)
        obtain rfl := Option.some.inj (evb.symm.trans exj)
        have gb := hin _ (List.getElem_mem lj)
        have lcj : ((blocksB l[i]).map (countR f))[j]? = some (countR f (blocksB l[i])[j]) := by rw [List.getElem?_map, List.getElem?_eq_getElem lj]; rfl
        match f, GP, gb, lcj, da with
        | f' + 1, _, gb, lcj, da =>
        refine ⟨rfl, _, rfl, vb, (blocksB l[i])[j], rfl, rvb.keep sa, gb, fun Hc sc => ⟨_, sc _ _ da, ?_, fun b o e => ?_, ?_⟩⟩
        · rw [List.length_map, List.length_map, List.length_take, List.length_map]
          exact Nat.lt_of_le_of_lt (Nat.min_le_right _ _) (Nat.lt_of_le_of_lt b4 (by decide))
        · rw [upd_ne (ne_of_none e hD2)]
          exact sc _ _ (sa _ _ e)
        · rw [upd_same, ints_take lcj]
      · rintro H5 ⟨s5, d5⟩
        rw [show ((blocksB l[i]).map (countR f)).take ys.length = (blocksB l[i]).map (countR f) by rw [List.take_of_length_le]; rw [List.length_map, rb.len]; exact Nat.le_refl _] at d5
        refine ⟨D2, _, rfl, SqL.of d5, _, _, rfl, rfl, _, s5 _ _ (h4 _ _ d1), ?_, fun b o e => ?_, ?_⟩
        · rw [List.length_map, List.length_map, List.length_take, List.length_map]
          exact Nat.lt_of_le_of_lt (Nat.min_le_right _ _) (Nat.lt_of_le_of_lt ll (by decide))
        · rw [upd_ne (ne_of_none e hD)]
          exact s5 _ _ (h4 _ _ (s1 _ _ e))
        · rw [upd_same, ints_take lc, sum_cast]
          rfl
    · rintro H5 ⟨s5, d5⟩
      rw [show (l.map fun d => 1 + ((blocksB d).map (countR f)).sum).take xs.length = l.map fun d => 1 + ((blocksB d).map (countR f)).sum by rw [List.take_of_length_le]; rw [List.length_map, hl]; exact Nat.le_refl _] at d5
      refine ⟨D, _, rfl, SqL.of d5, ?_⟩
      have k5 := k H5 s5
      rw [sum_cast]
      exact k5
theorem ok_countD {fC fB : Addr} {fdC fdB : FuncData} (F : Fun K "count_statements" "count_statements" sCount fC fdC) (T : TxtP mg)
    (GB : FnOk P w K mg base CX0 1 fB fdB ["statement"] (spBlocks K)) (kB : PySem.W.keepIn K (.ref fB) = true) (bB : Binds K fdB ["statement"] []) (mB : mg "blocks_of" = some (.ref fB))
    (bC : Binds K fdC ["block"] []) (mC : mg "count_statements" = some (.ref fC)) : ∀ f, FnOk P w K mg base CX0 (2 + f) fC fdC ["block"] (spCountD K f)
  | 0 => (count_step (f := 0) F T GB kB bB mB never_ok bC mC).mono (by omega)
  | f + 1 => (count_step (f := f + 1) F T GB kB bB mB ((ok_countD F T GB kB bB mB bC mC f).mono (by omega)) bC mC).mono (by omega)
end
end Oh
namespace Oh
open PySem PySem.Spec PyProof.Rows L2 PpSet
abbrev OPath := Option (List Nat)
abbrev LRow := List Nat × DT × OPath
def layBlocks (rec : DT → List Nat → OPath → OPath → List LRow) (here : List Nat) (fol out : OPath) (rp : Bool) : List DT → Nat → List LRow
  | [], _ => []
  | b :: bs, j => (if rp = true then rec b (here ++ [j]) (some (here ++ [j] ++ [0])) fol else rec b (here ++ [j]) fol out) ++ layBlocks rec here fol out rp bs (j + 1)
def folB (m : Nat) (path : List Nat) (behind : OPath) (i : Nat) : OPath := if i + 1 < m then some (path ++ [i + 1]) else behind
def layItems (rec : DT → List Nat → OPath → OPath → List LRow) (m : Nat) (path : List Nat) (behind out : OPath) : List DT → Nat → List LRow
  | [], _ => []
  | d :: ds, i => (path ++ [i], d, if headB d = "leave" then out else folB m path behind i) :: (layBlocks rec (path ++ [i]) (folB m path behind i) out (decide (headB d = "repeat")) (blocksB d) 0 ++ layItems rec m path behind out ds (i + 1))
def layR : Nat → DT → List Nat → OPath → OPath → List LRow
  | 0 => fun _ _ _ _ => []
  | f + 1 => fun b path behind out => layItems (layR f) (listB b).length path behind out (listB b) 0
theorem layBlocks_len {rec : DT → List Nat → OPath → OPath → List LRow} {c : DT → Nat} (h : ∀ d p a b, (rec d p a b).length = c d) {here : List Nat} {fol out : OPath} {rp : Bool} : ∀ (bs : List DT) (j : Nat), (layBlocks rec here fol out rp bs j).length = (bs.map c).sum
  | [], _ => rfl
  | b :: bs, j => by
    unfold layBlocks
    rw [List.length_append, layBlocks_len h bs (j + 1), List.map_cons, List.sum_cons]
    cases rp
    · rw [if_neg (by decide), h]
    · rw [if_pos rfl, h]
theorem layItems_len {rec : DT → List Nat → OPath → OPath → List LRow} {c : DT → Nat} (h : ∀ d p a b, (rec d p a b).length = c d) {m : Nat} {path : List Nat} {behind out : OPath} : ∀ (ds : List DT) (i : Nat), (layItems rec m path behind out ds i).length = (ds.map fun d => 1 + ((blocksB d).map c).sum).sum
  | [], _ => rfl
  | d :: ds, i => by
    unfold layItems
    rw [List.length_cons, List.length_append, layBlocks_len h, layItems_len h ds (i + 1), List.map_cons, List.sum_cons]
    omega
theorem lay_len : ∀ (f : Nat) (d : DT) (path : List Nat) (a b : OPath), (layR f d path a b).length = countR f d
  | 0, _, _, _, _ => rfl
  | f + 1, d, path, a, b => layItems_len (lay_len f) (listB d) 0
/-- one row, and the rows -/
def RowAt (K : PySem.W.Frag) (H : Hp) (v : V) (r : LRow) : Prop := ∃ (R T : Addr) (vS vF : V), v = .ref R ∧ H R = some (.tup [.ref T, vS, vF]) ∧ H T = some (.tup (pathV r.1)) ∧ Rp K H vS r.2.1 ∧ PathOr H vF r.2.2
def RowsAt (K : PySem.W.Frag) (H : Hp) (vs : List V) (rs : List LRow) : Prop := Paired (RowAt K H) vs rs
theorem PathOr.keep {H H' : Hp} (s : Same H H') {v : V} {o : OPath} (h : PathOr H v o) : PathOr H' v o := by
  cases o with
  | none => exact h
  | some w =>
    obtain ⟨p, e, hp⟩ := h
    exact ⟨p, e, s _ _ hp⟩
theorem RowAt.keep {K : PySem.W.Frag} {H H' : Hp} (s : Same H H') {v : V} {r : LRow} (h : RowAt K H v r) : RowAt K H' v r := by
  obtain ⟨R, T, vS, vF, e, h1, h2, h3, h4⟩ := h
  exact ⟨R, T, vS, vF, e, s _ _ h1, s _ _ h2, h3.keep s, h4.keep s⟩
theorem RowsAt.keep {K : PySem.W.Frag} {H H' : Hp} (s : Same H H') : ∀ {vs : List V} {rs : List LRow}, RowsAt K H vs rs → RowsAt K H' vs rs
  | _, _, .nil => .nil
  | _, _, .cons h t => .cons (RowAt.keep s h) (RowsAt.keep s t)
theorem RowsAt.append {K : PySem.W.Frag} {H : Hp} : ∀ {vs ws : List V} {rs qs : List LRow}, RowsAt K H vs rs → RowsAt K H ws qs → RowsAt K H (vs ++ ws) (rs ++ qs)
  | _, _, _, _, .nil, h => h
  | _, _, _, _, .cons h t, z => .cons h (RowsAt.append t z)
theorem RowsAt.len {K : PySem.W.Frag} {H : Hp} {vs : List V} {rs : List LRow} (h : RowsAt K H vs rs) : vs.length = rs.length := Paired.length h
/-- a list gets other items -/
theorem upd_lst_ne {H : Hp} {L p : Addr} {xs : List V} {o : HO} {z : HO} (hL : H L = some (.lst xs)) (hp : H p = some o) (ne : ∀ ys, o ≠ .lst ys) : upd H L z p = some o := by
  have h : p ≠ L := fun e => by
    subst e
    exact ne xs (Option.some.inj (hp.symm.trans hL))
  rw [upd_ne h]
  exact hp
mutual
theorem Rp.updL {K : PySem.W.Frag} {H : Hp} {L : Addr} {xs ys : List V} (hL : H L = some (.lst xs)) : ∀ {v : V} {d : DT}, Rp K H v d → Rp K (upd H L (.lst ys)) v d
  | _, _, .non => .non
  | _, _, .bl b => .bl b
  | _, _, .int i => .int i
  | _, _, .str z => .str z
  | _, _, .tup e r => .tup (upd_lst_ne hL e (fun _ => nofun)) (RpAll.updL hL r)
  | _, _, .lst (p := p) (xs := zs) e => by
    by_cases h : p = L
    · subst h
      exact .lst upd_same
    · exact .lst (by rw [upd_ne h]; exact e)
  | _, _, .dct e => .dct (upd_lst_ne hL e (fun _ => nofun))
  | _, _, .ins e c => .ins (upd_lst_ne hL e (fun _ => nofun)) c
theorem RpAll.updL {K : PySem.W.Frag} {H : Hp} {L : Addr} {xs ys : List V} (hL : H L = some (.lst xs)) : ∀ {vs : List V} {ds : List DT}, RpAll K H vs ds → RpAll K (upd H L (.lst ys)) vs ds
  | _, _, .nil => .nil
  | _, _, .cons h t => .cons (Rp.updL hL h) (RpAll.updL hL t)
end
theorem PathOr.updL {H : Hp} {L : Addr} {xs ys : List V} (hL : H L = some (.lst xs)) {v : V} {o : OPath} (h : PathOr H v o) : PathOr (upd H L (.lst ys)) v o := by
  cases o with
  | none => exact h
  | some w =>
    obtain ⟨p, e, hp⟩ := h
    exact ⟨p, e, upd_lst_ne hL hp (fun _ => nofun)⟩
theorem RowAt.updL {K : PySem.W.Frag} {H : Hp} {L : Addr} {xs ys : List V} (hL : H L = some (.lst xs)) {v : V} {r : LRow} (h : RowAt K H v r) : RowAt K (upd H L (.lst ys)) v r := by
  obtain ⟨R, T, vS, vF, e, h1, h2, h3, h4⟩ := h
  exact ⟨R, T, vS, vF, e, upd_lst_ne hL h1 (fun _ => nofun), upd_lst_ne hL h2 (fun _ => nofun), h3.updL hL, h4.updL hL⟩
theorem RowsAt.updL {K : PySem.W.Frag} {H : Hp} {L : Addr} {xs ys : List V} (hL : H L = some (.lst xs)) : ∀ {vs : List V} {rs : List LRow}, RowsAt K H vs rs → RowsAt K (upd H L (.lst ys)) vs rs
  | _, _, .nil => .nil
  | _, _, .cons h t => .cons (RowAt.updL hL h) (RowsAt.updL hL t)
def spLay (K : PySem.W.Frag) (f : Nat) : Sp := fun vs H Q _ => ∃ (v : V) (d : DT) (p : Addr) (vb vo : V) (path : List Nat) (behind out : OPath), vs = [v, .ref p, vb, vo] ∧ Rp K H v d ∧ goodB f d = true ∧ H p = some (.tup (pathV path)) ∧ path.length + 2 * f ≤ 100 ∧ countB f d ≤ 10000 ∧ PathOr H vb behind ∧ PathOr H vo out ∧
  ∀ L H' ys, Same H H' → H L = none → H' L = some (.lst ys) → RowsAt K H' ys (layR (f + 1) d path behind out) → Q (.ref L) H'
def spLayP (K : PySem.W.Frag) : Nat → Sp
  | 0 => fun _ _ _ _ => False
  | f + 1 => spLay K f
end Oh
namespace Oh
open PySem PySem.Spec PyProof.Rows L2 PpSet
section
variable {P : Program} {w : World} {K : PySem.W.Frag} {mg : Str → Option Value} {base : Heap} {kw pk ck : Addr}
theorem lay_step {f : Nat} {fL fB : Addr} {fdL fdB : FuncData} (F : Fun K "laid_out" "laid_out" sLaid fL fdL) (T : TxtP mg)
    (GB : FnOk P w K mg base CX0 1 fB fdB ["statement"] (spBlocks K)) (kB : PySem.W.keepIn K (.ref fB) = true) (bB : Binds K fdB ["statement"] []) (mB : mg "blocks_of" = some (.ref fB))
    (GP : FnOk P w K mg base CX0 (1 + f) fL fdL ["block", "path", "behind", "outside"] (spLayP K f)) (bL : Binds K fdL ["block", "path", "behind", "outside"] []) (mL : mg "laid_out" = some (.ref fL)) :
    FnOk P w K mg base CX0 (1 + f + 1) fL fdL ["block", "path", "behind", "outside"] (spLay K f) := by
  refine F.ok scLaid (fun vs H Q E h => ?_) (fun cdv A outer s H vs Q E hr h => ?_)
  · obtain ⟨v, d, p, vb, vo, path, behind, out, rfl, _⟩ := h
    rfl
  · obtain ⟨v, d, p, vb, vo, path, behind, out, rfl, r, hg, hp, small, big, pb, po, k⟩ := h
    have hr1 : Room 1 _ := hr.mono (by omega)
    obtain ⟨l, rfl, ll, good⟩ := good_inv hg
    obtain ⟨B, xs, rfl, hB, ra⟩ := r.tup_inv
    have hl := ra.len
    generalize hfull : layR (f + 1) (.tup l) path behind out = full at k
    have hlen : full.length ≤ 10000 := by
      rw [← hfull, lay_len]
      exact big
    refine ⟨_, pss_cons (ps_set (i := 4) scLaid.nd rfl (Or.inl rfl) (pe_lst pa_nil))
      (pss_cons (ps_for PassesOwn.never rfl (pi_enumT (by rfl) T.enum (pa_cons (pv 0) pa_nil)) (pg_tup rfl (pgs_cons (pg_name (i := 5) scLaid.nd rfl (Or.inl rfl)) (pgs_cons (pg_name (i := 6) scLaid.nd rfl (Or.inl rfl)) pgs_nil)))
        (pss_cons (ps_set (i := 7) scLaid.nd rfl (Or.inl rfl) (pe_op op_catA (pv 1) (pe_tup (pa_cons (pv 5) pa_nil))))
        (pss_cons (ps_set (i := 8) scLaid.nd rfl (Or.inl rfl) (pe_ifExp (pt_cmpR op_lt (pe_op op_add (pv 5) pe_int) (pe_callB call_len_seq (by rfl) T.len boot_len (pa_cons (pv 0) pa_nil)) (nomark _)) (pe_op op_catA (pv 1) (pe_tup (pa_cons (pe_op op_add (pv 5) pe_int) pa_nil))) (pv 2)))
        (pss_cons (ps_expr (pe_bm PySem.F.plainAttrs_list PySem.F.slot_list_append PySem.F.type_list_append mt_append (pv 4)
            (pa_cons (pe_tup (pa_cons (pv 7) (pa_cons (pv 6) (pa_cons (pe_ifExp (pt_cmpR op_eq (pe_ix ix_tup (pv 6) pe_int (fun _ _ => rfl)) pe_str (nomark _)) (pv 3) (pv 8)) pa_nil)))) pa_nil)))
        (pss_one (ps_for PassesOwn.never rfl (pi_enum (by rfl) T.enum (pa_cons (pe_call GB hr1 (by rfl) mB kB bB .nil pass0 (pa_cons (pv 6) pa_nil)) pa_nil)) (pg_tup rfl (pgs_cons (pg_name (i := 9) scLaid.nd rfl (Or.inl rfl)) (pgs_cons (pg_name (i := 10) scLaid.nd rfl (Or.inl rfl)) pgs_nil)))
          (pss_cons (ps_set (i := 11) scLaid.nd rfl (Or.inl rfl) (pe_op op_catA (pv 7) (pe_tup (pa_cons (pv 9) pa_nil))))
          (pss_one (ps_if (pt_cmpR op_eq (pe_ix ix_tup (pv 6) pe_int (fun _ _ => rfl)) pe_str (nomark _))
            (pss_one (ps_expr (pe_bm PySem.F.plainAttrs_list PySem.F.slot_list_extend PySem.F.type_list_extend mt_extend (pv 4) (pa_cons (pe_call GP hr (by rfl) mL F.kp bL .nil pass0 (pa_cons (pv 10) (pa_cons (pv 11) (pa_cons (pe_op op_catA (pv 11) (pe_tup (pa_cons pe_int pa_nil))) (pa_cons (pv 8) pa_nil))))) pa_nil))))
            (pss_one (ps_expr (pe_bm PySem.F.plainAttrs_list PySem.F.slot_list_extend PySem.F.type_list_extend mt_extend (pv 4) (pa_cons (pe_call GP hr (by rfl) mL F.kp bL .nil pass0 (pa_cons (pv 10) (pa_cons (pv 11) (pa_cons (pv 8) (pa_cons (pv 3) pa_nil))))) pa_nil)))))))))))))
      (pss_one (ps_ret (pv 4)))), ?_⟩
    refine ⟨by decide, fun L nL => ?_⟩
    refine ⟨_, rfl, B, xs, rfl, SqT.of ((Same.new nL) _ _ hB), for_it (walk_enumT (xs := xs)) (fun i σ H' => (∃ x, σ = [some (.ref B), some (.ref p), some vb, some vo, some (.ref L)] ++ x ∧ x.length = 7) ∧ Same H H' ∧ ∃ ys done, H' L = some (.lst ys) ∧ RowsAt K H' ys done ∧ done ++ layItems (layR f) l.length path behind out (l.drop i) i = full)
      ⟨⟨_, rfl, rfl⟩, Same.new nL, [], [], upd_same, .nil, hfull⟩ ?_ ?_ ?_⟩
    · rintro i σ H' _ ⟨_, s', _⟩
      exact SqT.of (s' _ _ hB)
    · rintro i x σ H1 H2 hi ⟨⟨z, ez, hz⟩, s1, ys, done, hL, rows, e⟩ ⟨Tp, x1, x2, rfl, nT, rfl, e1, e2⟩
      obtain rfl := Option.some.inj e1
      have li : i < l.length := by rw [← hl]; exact hi
      obtain ⟨vi, ev, rv⟩ := ra.get (i := i) (d := l[i]) (List.getElem?_eq_getElem li)
      obtain rfl := Option.some.inj (ev.symm.trans e2)
      have dr : l.drop i = l[i] :: l.drop (i + 1) := List.drop_eq_getElem_cons li
      rw [dr] at e
      obtain ⟨hs, hin⟩ := good _ (List.getElem_mem li)
      generalize l[i] = d at e rv hs hin
      obtain ⟨bk, b4⟩ := blocks_ok hs
      obtain ⟨g', l', _, _, el⟩ := stmt_inv hs
      obtain ⟨pi, xi, rfl, hpi, rai⟩ := (el ▸ rv : Rp K H vi (.tup (.str (headB d) :: l'))).tup_inv
      obtain ⟨v0, x0, r0⟩ := rai.get (i := 0) rfl
      cases r0
      subst ez
      match z, hz with
      | [z0, z1, z2, z3, z4, z5, z6], _ =>
      have s2 : Same H1 (upd H1 Tp (.tup [.int (i : Nat), .ref pi])) := Same.new nT
      refine ⟨Tp, _, rfl, SqT.of upd_same, rfl, _, _, rfl, _, _, rfl, rfl, ?_⟩
      refine ⟨_, rfl, _, rfl, (by show 1 ≤ sizeLine; decide), fun q nq => cat_path (path := path) (i := i) ((Same.new nq) _ _ (s2 _ _ (s1 _ _ hp))) upd_same (by omega) fun here H3 s3 hh => ?_⟩
      have s13 : Same H1 H3 := s2.trans ((Same.new nq).trans s3)
      have s03 := s1.trans s13
      refine ⟨_, rfl, _, _, rfl, rfl, _, rfl, B, xs, rfl, .inr (SqT.of (s03 _ _ hB)), _, _, rfl, rfl, _, rfl, ?_⟩
      -- the follower
      generalize hfol : folB l.length path behind i = fol at e
      by_cases c : i + 1 < l.length
      refine ite2 (fun _ => ?_) (fun z => absurd (decide_eq_true (show (i : Int) + 1 < xs.length by omega)) z)
      refine ⟨_, rfl, _, rfl, _, _, rfl, rfl, (by show 1 ≤ sizeLine; decide), fun q1 nq1 => cat_path (path := path) (i := i + 1) ((Same.new nq1) _ _ (s03 _ _ hp)) upd_same (by omega) fun vf Hf sf hf => ?_⟩
      obtain ⟨vF, hF⟩ : ∃ vF, vF = V.ref vf := ⟨_, rfl⟩
      have hvf : PathOr Hf vF fol := by rw [hF, ← hfol, folB, if_pos c]; exact ⟨vf, rfl, hf⟩
      have s1f : Same H1 Hf := s13.trans ((Same.new nq1).trans sf)
      have hhf : Hf here = some (.tup (pathV (path ++ [i]))) := sf _ _ ((Same.new nq1) _ _ hh)
      rotate_left
      refine ite2 (fun z => absurd (of_decide_eq_true z) (by omega)) fun _ => ?_
      refine ⟨_, rfl, ?_⟩
      obtain ⟨Hf, hHf⟩ : ∃ Hf, Hf = H3 := ⟨_, rfl⟩
      rw [← hHf]
      obtain ⟨vF, hF⟩ : ∃ vF, vF = vb := ⟨_, rfl⟩
      have hvf : PathOr Hf vF fol := by rw [hF, ← hfol, folB, if_neg c, hHf]; exact pb.keep s03
      have s1f : Same H1 Hf := hHf ▸ s13
      have hhf : Hf here = some (.tup (pathV (path ++ [i]))) := hHf ▸ hh
      rotate_left
      all_goals
        have s0f := s1.trans s1f
        have e' : done ++ ((path ++ [i], d, if headB d = "leave" then out else fol) :: (layBlocks (layR f) (path ++ [i]) fol out (decide (headB d = "repeat")) (blocksB d) 0 ++ layItems (layR f) l.length path behind out (l.drop (i + 1)) (i + 1))) = full := by
          rw [← hfol]
          exact e
        refine ⟨_, rfl, .inl ⟨rfl, _, SqL.of (s1f _ _ hL)⟩, ?_⟩
        refine ⟨_, rfl, _, rfl, _, rfl, pi, _, _, _, rfl, rfl, SqT.of (s0f _ _ hpi), at_of (j := 0) rfl x0, rfl, _, rfl, ?_⟩
        by_cases c2 : headB d = "leave"
        refine ite2 (fun _ => ?_) (fun z => absurd (decide_eq_true (by rw [c2])) z)
        refine ⟨_, rfl, (by show 3 ≤ sizeLine; decide), fun R nR => ?_⟩
        obtain ⟨vR, hR⟩ : ∃ vR, vR = vo := ⟨_, rfl⟩
        have hvr : PathOr Hf vR (if headB d = "leave" then out else fol) := by rw [hR, if_pos c2]; exact po.keep s0f
        rotate_left
        refine ite2 (fun z => absurd (V.str.inj (of_decide_eq_true z)) c2) fun _ => ?_
        refine ⟨_, rfl, (by show 3 ≤ sizeLine; decide), fun R nR => ?_⟩
        obtain ⟨vR, hR⟩ : ∃ vR, vR = vF := ⟨_, rfl⟩
        have hvr : PathOr Hf vR (if headB d = "leave" then out else fol) := by rw [hR, if_neg c2]; exact hvf
        rotate_left
        all_goals
          have sR : Same Hf (upd Hf R (.tup [.ref here, .ref pi, vR])) := Same.new nR
          have hLR : upd Hf R (.tup [.ref here, .ref pi, vR]) L = some (.lst ys) := sR _ _ (s1f _ _ hL)
          have rowsR : RowsAt K (upd Hf R (.tup [.ref here, .ref pi, vR])) (ys ++ [.ref R]) (done ++ [(path ++ [i], d, if headB d = "leave" then out else fol)]) :=
            (rows.keep (s1f.trans sR)).append (.cons ⟨R, here, .ref pi, vR, rfl, upd_same, sR _ _ hhf, rv.keep (s0f.trans sR), hvr.keep sR⟩ .nil)
          obtain ⟨HA, hHA⟩ : ∃ HA, HA = upd (upd Hf R (.tup [.ref here, .ref pi, vR])) L (.lst (ys ++ [.ref R])) := ⟨_, rfl⟩
          have hLA : HA L = some (.lst (ys ++ [.ref R])) := by rw [hHA]; exact upd_same
          have sA : Same H HA := fun b o eb => by rw [hHA, upd_ne (ne_of_none eb nL)]; exact sR _ _ (s0f _ _ eb)
          have rowsA : RowsAt K HA (ys ++ [.ref R]) (done ++ [(path ++ [i], d, if headB d = "leave" then out else fol)]) := by rw [hHA]; exact rowsR.updL hLR
          have hhA : HA here = some (.tup (pathV (path ++ [i]))) := by rw [hHA]; exact upd_lst_ne hLR (sR _ _ hhf) (fun _ => nofun)
          have hvA : PathOr HA vF fol := by rw [hHA]; exact (hvf.keep sR).updL hLR
          have eA : (done ++ [(path ++ [i], d, if headB d = "leave" then out else fol)]) ++ (layBlocks (layR f) (path ++ [i]) fol out (decide (headB d = "repeat")) (blocksB d) 0 ++ layItems (layR f) l.length path behind out (l.drop (i + 1)) (i + 1)) = full := by
            rw [List.append_assoc]
            exact e'
          have szA : ys.length < sizeLine := by
            have h1 := rows.len
            have h2 := congrArg List.length e'
            rw [List.length_append] at h2
            exact Nat.lt_of_le_of_lt (show ys.length ≤ 10000 by omega) (by decide)
          refine ⟨L, ys, _, rfl, rfl, (Same.new nR) _ _ (s1f _ _ hL), szA, ?_⟩
          first
            | rw [hR, hF] at hHA
            | rw [hR] at hHA
          rw [← hHA]
          refine ⟨_, rfl, _, d, rfl, rv.keep sA, hs, fun M H5 bs s5 nM hM rb => ⟨M, bs, rfl, SqL.of hM, for_it (walk_enum (xs := bs)) (fun j σ H' => (∃ x, σ = [some (.ref B), some (.ref p), some vb, some vo, some (.ref L), some (.int (i : Nat)), some (.ref pi), some (.ref here), some vF] ++ x ∧ x.length = 3) ∧ Same H H' ∧ H' M = some (.lst bs) ∧ H' here = some (.tup (pathV (path ++ [i]))) ∧ PathOr H' vF fol ∧ RpAll K H' bs (blocksB d) ∧
            ∃ ys done, H' L = some (.lst ys) ∧ RowsAt K H' ys done ∧ done ++ (layBlocks (layR f) (path ++ [i]) fol out (decide (headB d = "repeat")) ((blocksB d).drop j) j ++ layItems (layR f) l.length path behind out (l.drop (i + 1)) (i + 1)) = full)
            ⟨⟨_, (by rw [hF]; rfl), rfl⟩, sA.trans s5, hM, s5 _ _ hhA, hvA.keep s5, rb, _, _, s5 _ _ hLA, rowsA.keep s5, eA⟩ ?_ ?_ ?_⟩⟩
          · rintro j σ H' _ ⟨_, _, hM', _⟩
            exact SqL.of hM'
          · rintro j x σ H6 H7 hj ⟨⟨y, ey, hy⟩, s6, hM6, hh6, hv6, rb6, ys6, dn6, hL6, rows6, ej⟩ ⟨Tq, y1, y2, rfl, nTq, rfl, g1, g2⟩
            obtain rfl := Option.some.inj g1
            have lj : j < (blocksB d).length := by rw [← rb.len]; exact hj
            obtain ⟨vj, evb, rvb⟩ := rb6.get (i := j) (d := (blocksB d)[j]) (List.getElem?_eq_getElem lj)
            obtain rfl := Option.some.inj (evb.symm.trans g2)
            have drj : (blocksB d).drop j = (blocksB d)[j] :: (blocksB d).drop (j + 1) := List.drop_eq_getElem_cons lj
            rw [drj] at ej
            have gb := hin _ (List.getElem_mem lj)
            generalize (blocksB d)[j] = db at ej rvb gb
            have ML : M ≠ L := fun z => by
              subst z
              cases hLA.symm.trans nM
            obtain ⟨f', rfl⟩ : ∃ f', f = f' + 1 := by
              cases f with
              | zero => cases gb
              | succ f' => exact ⟨f', rfl⟩
            have lens := congrArg List.length ej
            rw [List.length_append, List.length_append, layBlocks_len (lay_len (f' + 1)), List.map_cons, List.sum_cons] at lens
            have big' : countB f' db ≤ 10000 := by
              show countR (f' + 1) db ≤ 10000
              omega
            have lr6 := rows6.len
            subst ey
            match y, hy with
            | [y0, y1, y2], _ =>
            have sq : Same H6 (upd H6 Tq (.tup [.int (j : Nat), vj])) := Same.new nTq
            refine ⟨Tq, _, rfl, SqT.of upd_same, rfl, _, _, rfl, _, _, rfl, rfl, ?_⟩
            refine ⟨_, rfl, _, rfl, (by show 1 ≤ sizeLine; decide), fun q2 nq2 => cat_path (path := path ++ [i]) (i := j) ((Same.new nq2) _ _ (sq _ _ hh6)) upd_same (by rw [List.length_append, List.length_singleton]; omega) fun st H8 s8 hst => ?_⟩
            have s68 : Same H6 H8 := sq.trans ((Same.new nq2).trans s8)
            have inv : ∀ (H10 : Hp) (zs : List V) (rs : List LRow), Same H8 H10 → RowsAt K H10 zs rs → rs.length = countR (f' + 1) db → layBlocks (layR (f' + 1)) (path ++ [i]) fol out (decide (headB d = "repeat")) (db :: (blocksB d).drop (j + 1)) j = rs ++ layBlocks (layR (f' + 1)) (path ++ [i]) fol out (decide (headB d = "repeat")) ((blocksB d).drop (j + 1)) (j + 1) →
                H10 L = some (.lst ys6) ∧ ys6.length + zs.length ≤ sizeLine ∧ Same H (upd H10 L (.lst (ys6 ++ zs))) ∧ upd H10 L (.lst (ys6 ++ zs)) M = some (.lst bs) ∧ upd H10 L (.lst (ys6 ++ zs)) here = some (.tup (pathV (path ++ [i]))) ∧ PathOr (upd H10 L (.lst (ys6 ++ zs))) vF fol ∧ RpAll K (upd H10 L (.lst (ys6 ++ zs))) bs (blocksB d) ∧
                ∃ ys done, upd H10 L (.lst (ys6 ++ zs)) L = some (.lst ys) ∧ RowsAt K (upd H10 L (.lst (ys6 ++ zs))) ys done ∧ done ++ (layBlocks (layR (f' + 1)) (path ++ [i]) fol out (decide (headB d = "repeat")) ((blocksB d).drop (j + 1)) (j + 1) ++ layItems (layR (f' + 1)) l.length path behind out (l.drop (i + 1)) (i + 1)) = full := by
              intro H10 zs rs s rows2 lrs er
              have s610 := s68.trans s
              have hL10 := s610 _ _ hL6
              have lz := rows2.len
              refine ⟨hL10, Nat.le_trans (show ys6.length + zs.length ≤ 10000 by omega) (by decide), fun b o eb => ?_, ?_, upd_lst_ne hL10 (s610 _ _ hh6) (fun _ => nofun), (hv6.keep s610).updL hL10, (rb6.keep s610).updL hL10, _, _, upd_same, ((rows6.keep s610).append rows2).updL hL10, ?_⟩
              · rw [upd_ne (ne_of_none eb nL)]
                exact s610 _ _ (s6 _ _ eb)
              · rw [upd_ne ML]
                exact s610 _ _ hM6
              · rw [er] at ej
                rw [List.append_assoc, ← List.append_assoc rs]
                exact ej
            refine ⟨_, rfl, pi, _, _, _, rfl, rfl, SqT.of (s68 _ _ (s6 _ _ hpi)), at_of (j := 0) rfl x0, rfl, _, rfl, ?_⟩
            have sm : (path ++ [i] ++ [j]).length + 2 * f' ≤ 100 := by
              rw [List.length_append, List.length_append, List.length_singleton, List.length_singleton]
              omega
            by_cases c5 : headB d = "repeat"
            · refine ite2 (fun _ => ?_) (fun z => absurd (decide_eq_true (by rw [c5])) z)
              refine ⟨_, rfl, .inl ⟨rfl, _, SqL.of (s68 _ _ hL6)⟩, _, rfl, _, rfl, _, rfl, (by show 1 ≤ sizeLine; decide), fun q3 nq3 => cat_path (path := path ++ [i] ++ [j]) (i := 0) ((Same.new nq3) _ _ hst) upd_same (by omega) fun st0 H9 s9 hst0 => ?_⟩
              have s89 : Same H8 H9 := (Same.new nq3).trans s9
              have s69 := s68.trans s89
              refine ⟨_, rfl, vj, db, st, .ref st0, vF, path ++ [i] ++ [j], some (path ++ [i] ++ [j] ++ [0]), fol, rfl, rvb.keep s69, gb, s89 _ _ hst, sm, big', ⟨st0, rfl, hst0⟩, hv6.keep s69, fun L2 H10 zs s10 nL2 hL2 rows2 => ?_⟩
              obtain ⟨i1, i2, i3⟩ := inv H10 zs _ (s89.trans s10) rows2 (lay_len _ _ _ _ _) (by
                show (if decide (headB d = "repeat") = true then _ else _) ++ _ = _
                rw [if_pos (decide_eq_true c5)])
              exact ⟨L, L2, ys6, zs, rfl, rfl, i1, hL2, i2, ⟨_, rfl, rfl⟩, i3⟩
            · refine ite2 (fun z => absurd (V.str.inj (of_decide_eq_true z)) c5) fun _ => ?_
              refine ⟨_, rfl, .inl ⟨rfl, _, SqL.of (s68 _ _ hL6)⟩, _, rfl, _, rfl, _, rfl, _, rfl, vj, db, st, vF, vo, path ++ [i] ++ [j], fol, out, rfl, rvb.keep s68, gb, hst, sm, big', hv6.keep s68, po.keep (s6.trans s68), fun L2 H10 zs s10 nL2 hL2 rows2 => ?_⟩
              obtain ⟨i1, i2, i3⟩ := inv H10 zs _ s10 rows2 (lay_len _ _ _ _ _) (by
                show (if decide (headB d = "repeat") = true then _ else _) ++ _ = _
                rw [if_neg (by simpa using c5)])
              exact ⟨L, L2, ys6, zs, rfl, rfl, i1, hL2, i2, ⟨_, rfl, rfl⟩, i3⟩
          · rintro σ H' ⟨⟨x, ex, hx⟩, s', _, _, _, _, ys', done', hL', rows', ej⟩
            rw [show (blocksB d).drop bs.length = [] by rw [rb.len]; exact List.drop_length] at ej
            exact ⟨⟨[some (.int (i : Nat)), some (.ref pi), some (.ref here), some vF] ++ x, by rw [ex]; rfl, by rw [List.length_append, hx]; rfl⟩, s', ys', done', hL', rows', ej⟩
    · rintro σ H1 ⟨⟨x, ex, hx⟩, s1, ys, done, hL, rows, e⟩
      rw [show l.drop xs.length = [] by rw [hl]; exact List.drop_length] at e
      subst ex
      have e : done = full := by
        have h : done ++ [] = full := e
        rw [List.append_nil] at h
        exact h
      exact ⟨_, rfl, k L H1 ys s1 nL hL (e ▸ rows)⟩
end
end Oh
namespace Oh
open PySem PySem.Spec PyProof.Rows L2 PpSet
abbrev sNamesIn : Stmt := top 30
abbrev sNames : Stmt := top 29
abbrev sPorts : Stmt := top 31
def strB (d : DT) : Str := match d with
  | .str s => s
  | _ => ""
def portsB (d : DT) : List Str := if headB d = "tell" ∨ headB d = "hear" then [strB (argB d 1)] else if headB d = "wait" then (listB (argB d 1)).map portB else []
/-- a new list of texts -/
def spStrs (K : PySem.W.Frag) (g : DT → List Str) : Sp := fun vs H Q _ => ∃ v d, vs = [v] ∧ Rp K H v d ∧ stmtB d = true ∧ ∀ p H', Same H H' → H p = none → H' p = some (.lst ((g d).map V.str)) → Q (.ref p) H'
theorem name_inv {K : PySem.W.Frag} {H : Hp} {v : V} {d : DT} (r : Rp K H v d) (h : nameB d = true) : v = .str (strB d) := by
  cases r with
  | str _ => rfl
  | _ => cases h
theorem tell_len {d : DT} (h : stmtB d = true) (e : headB d = "set" ∨ headB d = "tell") : lenB d = 3 ∧ nameB (argB d 1) = true ∧ exprB 4 (argB d 2) = true := by
  obtain ⟨g, l, k, z, _⟩ := stmt_inv h
  have kg : some setTellB = some g := by
    rcases e with e | e <;> (rw [e] at k; exact k)
  obtain rfl := Option.some.inj kg
  obtain ⟨h1, z⟩ := Bool.and_eq_true_iff.mp z
  obtain ⟨h2, h3⟩ := Bool.and_eq_true_iff.mp z
  exact ⟨beq_iff_eq.mp h1, h2, h3⟩
theorem hear_len {d : DT} (h : stmtB d = true) (e : headB d = "hear") : lenB d = 3 ∧ nameB (argB d 1) = true ∧ nameB (argB d 2) = true := by
  obtain ⟨g, l, k, z, _⟩ := stmt_inv h
  rw [e] at k
  obtain rfl := Option.some.inj (show some hearB = some g from k)
  obtain ⟨h1, z⟩ := Bool.and_eq_true_iff.mp z
  obtain ⟨h2, h3⟩ := Bool.and_eq_true_iff.mp z
  exact ⟨beq_iff_eq.mp h1, h2, h3⟩
theorem row_names {r : DT} (h : rowB r = true) : nameB (argB r 0) = true ∧ nameB (argB r 1) = true := by
  obtain ⟨_, h⟩ := Bool.and_eq_true_iff.mp h
  obtain ⟨h2, h⟩ := Bool.and_eq_true_iff.mp h
  exact ⟨h2, (Bool.and_eq_true_iff.mp h).1⟩
section
variable {P : Program} {w : World} {K : PySem.W.Frag} {mg : Str → Option Value} {base : Heap} {kw pk ck : Addr}
theorem scPorts : FnScope nBl ["statement"] (defScope sPorts) := ⟨rfl, rfl, rfl, by decide +kernel, rfl, by decide +kernel, by decide +kernel⟩
theorem ok_portsD {f : Addr} {fd : FuncData} (F : Fun K "ports_of" "ports_of" sPorts f fd) : FnOk P w K mg base CX0 1 f fd ["statement"] (spStrs K portsB) := by
  refine F.ok scPorts (fun vs H Q E h => ?_) (fun cdv A outer s H vs Q E hr h => ?_)
  · obtain ⟨v, d, rfl, _⟩ := h
    rfl
  · obtain ⟨v, d, rfl, r, hs, k⟩ := h
    obtain ⟨g, l, hk, hg, el⟩ := stmt_inv hs
    obtain ⟨p, xs, rfl, hp, ra⟩ := (el ▸ r : Rp K H v (.tup (.str (headB d) :: l))).tup_inv
    have hl := ra.len
    have ll := len_of el
    obtain ⟨v0, x0, r0⟩ := ra.get (i := 0) rfl
    cases r0
    have ge : ∀ {a b : Str}, a ≠ b → ¬ decide (V.str a = V.str b) = true := fun h z => h (V.str.inj (of_decide_eq_true z))
    refine ⟨_, pss_cons (ps_set (i := 1) scPorts.nd rfl (Or.inl rfl) (pe_ix ix_tup (pv 0) pe_int (fun _ _ => rfl)))
      (pss_cons (ps_if (pw_or (pt_cmpR op_eq (pv 1) pe_str (nomark _)) (pw_or1 (pt_cmpR op_eq (pv 1) pe_str (nomark _)))).pt (pss_one (ps_ret (pe_lst (pa_cons (pe_ix ix_tup (pv 0) pe_int (fun _ _ => rfl)) pa_nil)))) pss_nil)
      (pss_cons (ps_if (pt_cmpR op_eq (pv 1) pe_str (nomark _)) (pss_one (ps_ret
          (pe_lc (own := [("row", 2)]) (g := gName 2) (tt := tYes) (te := tOp (rIxT K) (tVar 2) (tC (.int 0))) rfl scPorts.nd (pi_tup (pe_ix ix_tup (pv 0) pe_int (fun _ _ => rfl))) (blkOk_by (N := nBl) (sc := defScope sPorts) (by decide +kernel)) (fun _ _ _ _ _ => pg_name (i := 2) scPorts.nd rfl (Or.inl rfl)) (fun _ _ _ _ _ => pts_nil)
            (fun _ _ _ _ _ => pe_ix ix_tup (pv 2) pe_int (fun _ _ => rfl))))) pss_nil)
      (pss_one (ps_ret (pe_lst pa_nil))))), ?_⟩
    refine ⟨_, rfl, p, _, _, _, rfl, rfl, SqT.of hp, at_of (j := 0) rfl x0, ?_⟩
    have one : (headB d = "tell" ∨ headB d = "hear") → ∃ v1, xs[1]? = some v1 ∧ v1 = .str (strB (argB d 1)) := fun c => by
      have hh : lenB d = 3 ∧ nameB (argB d 1) = true := by
        rcases c with c | c
        · exact ⟨(tell_len hs (.inr c)).1, (tell_len hs (.inr c)).2.1⟩
        · exact ⟨(hear_len hs c).1, (hear_len hs c).2.1⟩
      obtain ⟨v1, x1, r1⟩ := arg_at (i := 1) ra (by rw [← ll, hh.1]; decide)
      rw [← el] at r1
      exact ⟨v1, x1, name_inv r1 hh.2⟩
    by_cases c : headB d = "tell" ∨ headB d = "hear"
    · obtain ⟨v1, x1, rfl⟩ := one c
      have hb : portsB d = [strB (argB d 1)] := by unfold portsB; rw [if_pos c]
      rw [hb] at k
      rcases c with c | c
      · refine ⟨_, rfl, rfl, _, rfl, ite2 (fun _ => ?_) (fun z => absurd (decide_eq_true (by rw [c])) z)⟩
        exact ⟨_, rfl, p, _, _, _, rfl, rfl, SqT.of hp, at_of (j := 1) rfl x1, (by show 1 ≤ sizeLine; decide), fun q nq => k q _ (Same.new nq) nq upd_same⟩
      · refine ⟨_, rfl, rfl, _, rfl, ite2 (fun z => absurd z (ge (by rw [c]; decide))) fun _ => ⟨_, rfl, rfl, _, rfl, ite2 (fun _ => ?_) (fun z => absurd (decide_eq_true (by rw [c])) z)⟩⟩
        exact ⟨_, rfl, p, _, _, _, rfl, rfl, SqT.of hp, at_of (j := 1) rfl x1, (by show 1 ≤ sizeLine; decide), fun q nq => k q _ (Same.new nq) nq upd_same⟩
    refine ⟨_, rfl, rfl, _, rfl, ite2 (fun z => absurd z (ge fun y => c (.inl y))) fun _ => ⟨_, rfl, rfl, _, rfl, ite2 (fun z => absurd z (ge fun y => c (.inr y))) fun _ => ?_⟩⟩
    refine ⟨_, rfl, rfl, _, rfl, ?_⟩
    by_cases c4 : headB d = "wait"
    · refine ite2 (fun _ => ?_) (fun z => absurd (decide_eq_true (by rw [c4])) z)
      have hb : portsB d = (listB (argB d 1)).map portB := by unfold portsB; rw [if_neg c, if_pos c4]
      obtain ⟨z1, z2, z3, _⟩ := wait_len hs c4
      rw [hb] at k
      obtain ⟨v1, x1, r1⟩ := arg_at (i := 1) ra (by rw [← ll, z1]; decide)
      rw [← el] at r1
      obtain ⟨m, em, lm⟩ := choice_inv z2
      rw [em] at r1 k z3
      obtain ⟨q1, ys, rfl, hq1, rm⟩ := r1.tup_inv
      refine ⟨_, rfl, p, _, _, _, rfl, rfl, SqT.of hp, at_of (j := 1) rfl x1, q1, rfl, ⟨_, SqT.of hq1⟩, fun D nD => lc_it (walk_tup (xs := ys)) (fun i H' => Same H H' ∧ H' D = some (.lst (((m.map portB).take i).map V.str))) ⟨Same.new nD, upd_same⟩ (fun i H' _ z => SqT.of (z.1 _ _ hq1)) ?_ ?_⟩
      · rintro i x Ha Hb hi ⟨sa, da⟩ ⟨e, ex⟩
        subst e
        have li : i < m.length := by rw [← rm.len]; exact hi
        obtain ⟨vi, ev, rv⟩ := rm.get (i := i) (d := m[i]) (List.getElem?_eq_getElem li)
        obtain rfl := Option.some.inj (ev.symm.trans ex)
        obtain ⟨lr, zs, er, ez, ep⟩ := row_inv (z3 _ (List.getElem_mem li))
        rw [er] at rv
        obtain ⟨pr, xr, rfl, hpr, rr⟩ := rv.tup_inv
        obtain ⟨vz, evz, rz⟩ := rr.get (i := 0) ez
        cases rz
        have lc : (m.map portB)[i]? = some zs := by rw [List.getElem?_map, List.getElem?_eq_getElem li, ← ep]; rfl
        refine ⟨rfl, _, rfl, pr, _, _, _, rfl, rfl, SqT.of (sa _ _ hpr), at_of (j := 0) rfl evz, _, da, ?_, fun b o e => ?_, ?_⟩
        · rw [List.length_map, List.length_take, List.length_map]
          exact Nat.lt_of_le_of_lt (Nat.min_le_right _ _) (Nat.lt_of_le_of_lt lm (by decide))
        · rw [upd_ne (ne_of_none e nD)]
          exact sa _ _ e
        · rw [upd_same, List.take_add_one, lc]
          simp
      · rintro H1 ⟨s1, d1⟩
        rw [List.take_of_length_le (by rw [List.length_map, rm.len]; exact Nat.le_refl _)] at d1
        exact k D H1 s1 nD d1
    refine ite2 (fun z => absurd z (ge c4)) fun _ => ?_
    have hb : portsB d = [] := by unfold portsB; rw [if_neg c, if_neg c4]
    rw [hb] at k
    exact ⟨by decide, fun q nq => k q _ (Same.new nq) nq upd_same⟩
end
end Oh
namespace Oh
open PySem PySem.Spec PyProof.Rows L2 PpSet
def namesX : Nat → DT → List Str
  | 0, d => if digitB d = true then [] else [strB (argB d 1)]
  | n + 1, d => if digitB d = true then [] else if headB d = "name" then [strB (argB d 1)] else ((tailB d).map (namesX n)).flatten
/-- the outer loop of a comprehension of two clauses -/
theorem lc2_it {J : It} {n : Nat} {G : Hp → Prop} {Y : Nat → Hp → V → Hp → Prop} (w : Walk J n G Y) {g : TG} {tt : TT} {wi1 : TI} {g1 : TG} {tt1 : TT} {te : TE} {vs vs1 : List Nat} {σ : L2.St} {H1 : Hp} {D : Addr} {Qd : Hp → Prop} (Pv : Nat → Hp → Prop) (h0 : Pv 0 (upd H1 D (.lst []))) (hG : ∀ i H, i ≤ n → Pv i H → G H)
    (hs : ∀ i x H H', i < n → Pv i H → Y i H x H' → g x (wipe σ vs) H' fun σ2 H2 => wipe σ2 vs = wipe σ vs ∧ tt σ2 H2 fun b H3 => if b = true then wi1 σ2 H3 fun J1 H4 => ∃ W1 : Nat → Nat → Hp → Prop, (∃ m, W1 0 m H4) ∧ ∀ j k H, W1 j k H →
      (J1.stop j H ∧ Pv (i + 1) H) ∨ (J1.go j H ∧ ∃ Nx1 : Hp → Prop, (∀ H', Nx1 H' → ∃ k', k' < k ∧ W1 (j + 1) k' H') ∧ ∀ x H', J1.yld j H x H' → g1 x (wipe σ2 vs1) H' fun σ3 H5 => wipe σ3 vs1 = wipe σ2 vs1 ∧ tt1 σ3 H5 fun b H6 =>
        if b = true then te σ3 H6 fun y H7 => ∃ acc, H7 D = some (.lst acc) ∧ acc.length < sizeLine ∧ Nx1 (upd H7 D (.lst (acc ++ [y]))) else Nx1 H6) else Pv (i + 1) H3) (hd : ∀ H, Pv n H → Qd H) :
    ∃ W : Nat → Nat → Hp → Prop, (∃ m, W 0 m (upd H1 D (.lst []))) ∧ ∀ i m H, W i m H → (J.stop i H ∧ Qd H) ∨ (J.go i H ∧ ∃ Nx : Hp → Prop, (∀ H', Nx H' → ∃ m', m' < m ∧ W (i + 1) m' H') ∧ ∀ x H', J.yld i H x H' → g x (wipe σ vs) H' fun σ2 H2 => wipe σ2 vs = wipe σ vs ∧ tt σ2 H2 fun b H3 =>
      if b = true then wi1 σ2 H3 fun J1 H4 => ∃ W1 : Nat → Nat → Hp → Prop, (∃ m, W1 0 m H4) ∧ ∀ j k H, W1 j k H → (J1.stop j H ∧ Nx H) ∨ (J1.go j H ∧ ∃ Nx1 : Hp → Prop, (∀ H', Nx1 H' → ∃ k', k' < k ∧ W1 (j + 1) k' H') ∧ ∀ x H', J1.yld j H x H' → g1 x (wipe σ2 vs1) H' fun σ3 H5 => wipe σ3 vs1 = wipe σ2 vs1 ∧ tt1 σ3 H5 fun b H6 =>
        if b = true then te σ3 H6 fun y H7 => ∃ acc, H7 D = some (.lst acc) ∧ acc.length < sizeLine ∧ Nx1 (upd H7 D (.lst (acc ++ [y]))) else Nx1 H6) else Nx H3) := by
  refine ⟨fun i m H => m = n - i ∧ i ≤ n ∧ Pv i H, ⟨n, by simp, Nat.zero_le _, h0⟩, ?_⟩
  rintro i m H ⟨rfl, hi, p⟩
  have q := hG i H hi p
  by_cases hlt : i < n
  · exact .inr ⟨w.goes i H hlt q, Pv (i + 1), fun H' p' => ⟨n - (i + 1), by omega, rfl, hlt, p'⟩, fun x H' y => hs i x H H' hlt p (w.yields i H x H' hlt q y)⟩
  · have e : i = n := by omega
    subst e
    exact .inl ⟨w.stops H q, hd H p⟩
/-- the inner loop -/
theorem in_it {J1 : It} {n : Nat} {G : Hp → Prop} {Y : Nat → Hp → V → Hp → Prop} (w : Walk J1 n G Y) {g1 : TG} {tt1 : TT} {te : TE} {vs1 : List Nat} {σ2 : L2.St} {H4 : Hp} {D : Addr} {Qd : Hp → Prop} (Pv : Nat → Hp → Prop) (h0 : Pv 0 H4) (hG : ∀ i H, i ≤ n → Pv i H → G H)
    (hs : ∀ j x H H', j < n → Pv j H → Y j H x H' → g1 x (wipe σ2 vs1) H' fun σ3 H5 => wipe σ3 vs1 = wipe σ2 vs1 ∧ tt1 σ3 H5 fun b H6 => if b = true then te σ3 H6 fun y H7 => ∃ acc, H7 D = some (.lst acc) ∧ acc.length < sizeLine ∧ Pv (j + 1) (upd H7 D (.lst (acc ++ [y]))) else Pv (j + 1) H6) (hd : ∀ H, Pv n H → Qd H) :
    ∃ W1 : Nat → Nat → Hp → Prop, (∃ m, W1 0 m H4) ∧ ∀ j k H, W1 j k H → (J1.stop j H ∧ Qd H) ∨ (J1.go j H ∧ ∃ Nx1 : Hp → Prop, (∀ H', Nx1 H' → ∃ k', k' < k ∧ W1 (j + 1) k' H') ∧ ∀ x H', J1.yld j H x H' → g1 x (wipe σ2 vs1) H' fun σ3 H5 => wipe σ3 vs1 = wipe σ2 vs1 ∧ tt1 σ3 H5 fun b H6 =>
      if b = true then te σ3 H6 fun y H7 => ∃ acc, H7 D = some (.lst acc) ∧ acc.length < sizeLine ∧ Nx1 (upd H7 D (.lst (acc ++ [y]))) else Nx1 H6) := by
  refine ⟨fun i m H => m = n - i ∧ i ≤ n ∧ Pv i H, ⟨n, by simp, Nat.zero_le _, h0⟩, ?_⟩
  rintro i m H ⟨rfl, hi, p⟩
  have q := hG i H hi p
  by_cases hlt : i < n
  · exact .inr ⟨w.goes i H hlt q, Pv (i + 1), fun H' p' => ⟨n - (i + 1), by omega, rfl, hlt, p'⟩, fun x H' y => hs i x H H' hlt p (w.yields i H x H' hlt q y)⟩
  · have e : i = n := by omega
    subst e
    exact .inl ⟨w.stops H q, hd H p⟩
theorem expr_inv {n : Nat} {d : DT} (h : exprB n d = true) (hd : digitB d = false) : (headB d = "name" ∧ lenB d = 2 ∧ nameB (argB d 1) = true) ∨ (∃ n' p, n = n' + 1 ∧ headB d ≠ "name" ∧ partsB (headB d) = some p ∧ lenB d = 1 + p ∧ ∀ x ∈ tailB d, exprB n' x = true) := by
  by_cases hn : headB d = "name"
  · rw [expr_name hn, hd, Bool.false_or] at h
    obtain ⟨h1, h2⟩ := Bool.and_eq_true_iff.mp h
    exact .inl ⟨hn, beq_iff_eq.mp h1, h2⟩
  · cases n with
    | zero => rw [expr_zero hn, hd] at h; cases h
    | succ n =>
      cases hp : partsB (headB d) with
      | none => rw [expr_none hn hp, hd] at h; cases h
      | some p =>
        rw [expr_some hn hp, hd, Bool.false_or] at h
        obtain ⟨h1, h2⟩ := Bool.and_eq_true_iff.mp h
        exact .inr ⟨n, p, rfl, hn, rfl, beq_iff_eq.mp h1, fun x mx => List.all_eq_true.mp h2 _ (List.mem_map_of_mem mx)⟩
def spNamesX (K : PySem.W.Frag) (n : Nat) : Sp := fun vs H Q _ => ∃ v d, vs = [v] ∧ Rp K H v d ∧ exprB n d = true ∧ ∀ p H', Same H H' → H p = none → H' p = some (.lst ((namesX n d).map V.str)) → Q (.ref p) H'
def spNamesP (K : PySem.W.Frag) : Nat → Sp
  | 0 => fun _ _ _ _ => False
  | n + 1 => spNamesX K n
theorem names_few : ∀ (n : Nat) (d : DT), exprB n d = true → (namesX n d).length ≤ 2 ^ n
  | 0, d, _ => by
    unfold namesX
    split
    · exact Nat.zero_le _
    · exact Nat.le_refl _
  | n + 1, d, h => by
    unfold namesX
    split
    · exact Nat.zero_le _
    · rename_i hd
      split
      · exact Nat.one_le_two_pow
      · rename_i hn
        cases hp : partsB (headB d) with
        | none => rw [expr_none hn hp] at h; exact absurd h hd
        | some p =>
          rw [expr_some hn hp, Bool.eq_false_iff.mpr hd, Bool.false_or] at h
          obtain ⟨h1, h2⟩ := Bool.and_eq_true_iff.mp h
          obtain ⟨_, _, p2⟩ := parts_some hp
          have tl : (tailB d).length ≤ 2 := by
            have h1 : lenB d = 1 + p := beq_iff_eq.mp h1
            cases d with
            | tup l =>
              show (l.drop 1).length ≤ 2
              have h1 : l.length = 1 + p := h1
              rw [List.length_drop]
              omega
            | _ => exact Nat.zero_le _
          have each : ∀ x ∈ tailB d, (namesX n x).length ≤ 2 ^ n := fun x mx => names_few n x (List.all_eq_true.mp h2 _ (List.mem_map_of_mem mx))
          have gen : ∀ l : List DT, (∀ x ∈ l, (namesX n x).length ≤ 2 ^ n) → ((l.map (namesX n)).flatten).length ≤ l.length * 2 ^ n := by
            intro l
            induction l with
            | nil => intro _; simp
            | cons x r ih =>
              intro hx
              rw [List.map_cons, List.flatten_cons, List.length_append, List.length_cons, Nat.succ_mul]
              have a1 := hx x List.mem_cons_self
              have a2 := ih fun y my => hx y (List.mem_cons_of_mem _ my)
              omega
          have g := gen _ each
          rw [Nat.pow_succ, Nat.mul_comm (2 ^ n) 2]
          exact Nat.le_trans g (Nat.mul_le_mul_right _ tl)
section
variable {P : Program} {w : World} {K : PySem.W.Frag} {mg : Str → Option Value} {base : Heap} {kw pk ck : Addr}
abbrev nNi : List Str := ["expression", "part", "name"]
theorem scNamesIn : FnScope nNi ["expression"] (defScope sNamesIn) := ⟨rfl, rfl, rfl, by decide +kernel, rfl, by decide +kernel, by decide +kernel⟩
theorem namesIn_step {n : Nat} (n4 : n ≤ 4) {f fD : Addr} {fd fdD : FuncData} (F : Fun K "_names_in" "_names_in" sNamesIn f fd)
    (GD : FnOk P w K mg base CX0 2 fD fdD ["value"] (spB K digitB)) (kD : PySem.W.keepIn K (.ref fD) = true) (bD : Binds K fdD ["value"] []) (mD : mg "is_digit" = some (.ref fD))
    (GP : FnOk P w K mg base CX0 (2 + n) f fd ["expression"] (spNamesP K n)) (bN : Binds K fd ["expression"] []) (mN : mg "_names_in" = some (.ref f)) : FnOk P w K mg base CX0 (2 + n + 1) f fd ["expression"] (spNamesX K n) := by
  refine F.ok scNamesIn (fun vs H Q E h => ?_) (fun cdv A outer s H vs Q E hr h => ?_)
  · obtain ⟨v, d, rfl, _⟩ := h
    rfl
  · obtain ⟨v, d, rfl, r, he, k⟩ := h
    have hr2 : Room 2 _ := hr.mono (by omega)
    refine ⟨_, pss_cons (ps_if (pt_val (pe_call GD hr2 (by rfl) mD kD bD .nil pass0 (pa_cons (pv 0) pa_nil))) (pss_one (ps_ret (pe_lst pa_nil))) pss_nil)
      (pss_cons (ps_if (pt_cmpR op_eq (pe_ix ix_tup (pv 0) pe_int (fun _ _ => rfl)) pe_str (nomark _)) (pss_one (ps_ret (pe_lst (pa_cons (pe_ix ix_tup (pv 0) pe_int (fun _ _ => rfl)) pa_nil)))) pss_nil)
      (pss_one (ps_ret (pe_lc2 (own := [("part", 1), ("name", 2)]) (vs1 := [2]) (g := gName 1) (tt := tYes) (g1 := gName 2) (tt1 := tYes) (wi1 := iList K (tCall (spNamesP K n) [] E0 (tCons (tVar 1) tNil))) (te := tVar 2) rfl scNamesIn.nd (pi_tup (pe_slice sl_tup (pv 0) (po_some pe_int) po_none))
        (blkOk_by (N := nNi) (sc := defScope sNamesIn) (by decide +kernel)) (by decide +kernel) (fun _ _ _ _ _ => pg_name (i := 1) scNamesIn.nd rfl (Or.inl rfl)) (fun _ _ _ _ _ => pts_nil)
        (fun _ _ _ _ _ => pi_list (by exact (pe_call GP hr (by rfl) mN F.kp bN .nil pass0 (pa_cons (pv 1) pa_nil)))) (fun _ _ _ _ _ => pg_name (i := 2) scNamesIn.nd rfl (Or.inl rfl)) (fun _ _ _ _ _ => pts_nil) (fun _ _ _ _ _ => pv 2))))), ?_⟩
    have ge : ∀ {a b : Str}, a ≠ b → ¬ decide (V.str a = V.str b) = true := fun h z => h (V.str.inj (of_decide_eq_true z))
    refine ⟨_, rfl, v, d, rfl, r, fun H1 s1 => ⟨_, rfl, ?_⟩⟩
    cases hd : digitB d with
    | true =>
      have e : namesX n d = [] := by cases n <;> (unfold namesX; rw [if_pos hd])
      rw [e] at k
      exact iteT ⟨by decide, fun q nq => k q _ (s1.trans (Same.new nq)) (s1.free nq) upd_same⟩
    | false =>
      refine iteF ?_
      have nd : ¬ digitB d = true := by rw [hd]; decide
      have inv := expr_inv he hd
      have ne : headB d ≠ "" := by
        rcases inv with ⟨h1, _⟩ | ⟨_, _, _, _, h2, _⟩
        · rw [h1]
          decide
        · exact (parts_some h2).2.1
      obtain ⟨l, el⟩ := head_inv ne
      have ll := len_of el
      obtain ⟨p, xs, rfl, hp, ra⟩ := (el ▸ r : Rp K H v (.tup (.str (headB d) :: l))).tup_inv
      obtain ⟨v0, x0, r0⟩ := ra.get (i := 0) rfl
      cases r0
      have hp1 := s1 _ _ hp
      refine ⟨_, rfl, p, _, _, _, rfl, rfl, SqT.of hp1, at_of (j := 0) rfl x0, rfl, _, rfl, ?_⟩
      rcases inv with ⟨h1, h2, h3⟩ | ⟨n', m, rfl, h1, h2, h3, h4⟩
      · refine ite2 (fun _ => ?_) (fun z => absurd (decide_eq_true (by rw [h1])) z)
        have e : namesX n d = [strB (argB d 1)] := by
          cases n with
          | zero => unfold namesX; rw [if_neg nd]
          | succ n => unfold namesX; rw [if_neg nd, if_pos h1]
        rw [e] at k
        obtain ⟨v1, x1, r1⟩ := arg_at (i := 1) ra (by rw [← ll, h2]; decide)
        rw [← el] at r1
        obtain rfl := name_inv r1 h3
        exact ⟨_, rfl, p, _, _, _, rfl, rfl, SqT.of hp1, at_of (j := 1) rfl x1, (by show 1 ≤ sizeLine; decide), fun q nq => k q _ (s1.trans (Same.new nq)) (s1.free nq) upd_same⟩
      · refine ite2 (fun z => absurd z (ge h1)) fun _ => ?_
        have e : namesX (n' + 1) d = ((tailB d).map (namesX n')).flatten := by unfold namesX; rw [if_neg nd, if_neg h1]
        rw [e] at k
        have et : tailB d = l := by rw [el]; rfl
        rw [et] at k h4
        obtain ⟨_, _, m2⟩ := parts_some h2
        have ln : l.length ≤ 2 := by
          rw [ll, List.length_cons] at h3
          omega
        have ra1 := ra.keep s1
        obtain ⟨vh, vs, rfl, ra'⟩ : ∃ vh vs, xs = vh :: vs ∧ RpAll K H1 vs l := by
          cases ra1 with
          | cons _ t => exact ⟨_, _, rfl, t⟩
        refine ⟨_, rfl, 1, rfl, p, _, rfl, SqT.of hp1, cut1_no _ _, fun q nq => ?_⟩
        rw [cut1]
        have sq : Same H1 (upd H1 q (.tup vs)) := Same.new nq
        have few : ∀ i, (((l.map (namesX n')).take i).flatten).length ≤ 1000 := fun i => by
          have g1 : ∀ l : List DT, (∀ x ∈ l, (namesX n' x).length ≤ 2 ^ n') → ∀ i, (((l.map (namesX n')).take i).flatten).length ≤ l.length * 2 ^ n' := by
            intro l
            induction l with
            | nil => intro _ i; simp
            | cons x r ih =>
              intro hx i
              cases i with
              | zero => simp
              | succ i =>
                rw [List.map_cons, List.take_succ_cons, List.flatten_cons, List.length_append, List.length_cons, Nat.succ_mul]
                have a1 := hx x List.mem_cons_self
                have a2 := ih (fun y my => hx y (List.mem_cons_of_mem _ my)) i
                omega
          have a := g1 l (fun x mx => names_few n' x (h4 x mx)) i
          have b : (2 : Nat) ^ n' ≤ 2 ^ 4 := Nat.pow_le_pow_right (by decide) (by omega)
          exact Nat.le_trans a (Nat.le_trans (Nat.mul_le_mul ln b) (by decide))
        refine ⟨q, rfl, ⟨_, SqT.of upd_same⟩, fun D nD => lc2_it (walk_tup (xs := vs)) (fun i H' => Same (upd H1 q (.tup vs)) H' ∧ H' D = some (.lst ((((l.map (namesX n')).take i).flatten).map V.str))) ⟨Same.new nD, upd_same⟩ (fun i H' _ z => SqT.of (z.1 _ _ upd_same)) ?_ ?_⟩
        · rintro i x Ha Hb hi ⟨sa, da⟩ ⟨e, ex⟩
          subst e
          have li : i < l.length := by rw [← ra'.len]; exact hi
          obtain ⟨v1, ev, rv⟩ := ra'.get (i := i) (d := l[i]) (List.getElem?_eq_getElem li)
          obtain rfl := Option.some.inj (ev.symm.trans ex)
          have lc : (l.map (namesX n'))[i]? = some (namesX n' l[i]) := by rw [List.getElem?_map, List.getElem?_eq_getElem li]; rfl
          have tk : ((l.map (namesX n')).take (i + 1)).flatten = ((l.map (namesX n')).take i).flatten ++ namesX n' l[i] := by rw [List.take_add_one, lc, List.flatten_append]; simp
          refine ⟨rfl, _, rfl, v1, l[i], rfl, rv.keep (sq.trans sa), h4 _ (List.getElem_mem li), fun q3 Hc sc nq3 hq3 => ⟨q3, rfl, ⟨_, SqL.of hq3⟩, in_it (walk_list (xs := (namesX n' l[i]).map V.str)) (fun j H' => Same (upd H1 q (.tup vs)) H' ∧ H' q3 = some (.lst ((namesX n' l[i]).map V.str)) ∧ H' D = some (.lst ((((l.map (namesX n')).take i).flatten ++ (namesX n' l[i]).take j).map V.str))) ⟨sa.trans sc, hq3, by rw [List.take_zero, List.append_nil]; exact sc _ _ da⟩ (fun j H' _ z => SqL.of z.2.1) ?_ ?_⟩⟩
          · rintro j x Hd He hj ⟨sd, hqd, hDd⟩ ⟨e, exj⟩
            subst e
            have qD : q3 ≠ D := fun z => by
              subst z
              cases da.symm.trans nq3
            obtain ⟨nm, en, rfl⟩ : ∃ nm, (namesX n' l[i])[j]? = some nm ∧ x = .str nm := by
              rw [List.getElem?_map] at exj
              cases en : (namesX n' l[i])[j]? with
              | none => rw [en] at exj; cases exj
              | some nm => rw [en] at exj; exact ⟨nm, rfl, (Option.some.inj exj).symm⟩
            refine ⟨rfl, _, rfl, _, hDd, ?_, fun b o eb => ?_, ?_, ?_⟩
            · have f1 := few (i + 1)
              rw [tk, List.length_append] at f1
              rw [List.length_map, List.length_append, List.length_take]
              exact Nat.lt_of_le_of_lt (show _ ≤ 1000 by omega) (by decide)
            · rw [upd_ne (ne_of_none eb nD)]
              exact sd _ _ eb
            · rw [upd_ne qD]
              exact hqd
            · rw [upd_same, List.take_add_one, en]
              simp
          · rintro Hd ⟨sd, _, hDd⟩
            rw [List.length_map, List.take_length, ← tk] at hDd
            exact ⟨sd, hDd⟩
        · rintro Hc ⟨sc, dc⟩
          rw [List.take_of_length_le (by rw [List.length_map, ra'.len]; exact Nat.le_refl _)] at dc
          exact k D Hc (s1.trans (sq.trans sc)) ((s1.trans sq).free nD) dc
end
end Oh
namespace Oh
open PySem PySem.Spec PyProof.Rows L2 PpSet
def namesB (d : DT) : List Str :=
  if headB d = "set" then strB (argB d 1) :: namesX 4 (argB d 2) else if headB d = "tell" then namesX 4 (argB d 2) else if headB d = "if" then namesX 4 (argB d 1) else if headB d = "hear" then [strB (argB d 2)]
  else if headB d = "wait" then (listB (argB d 1)).map fun r => strB (argB r 1) else []
section
variable {P : Program} {w : World} {K : PySem.W.Frag} {mg : Str → Option Value} {base : Heap} {kw pk ck : Addr}
theorem ok_namesIn {f fD : Addr} {fd fdD : FuncData} (F : Fun K "_names_in" "_names_in" sNamesIn f fd)
    (GD : FnOk P w K mg base CX0 2 fD fdD ["value"] (spB K digitB)) (kD : PySem.W.keepIn K (.ref fD) = true) (bD : Binds K fdD ["value"] []) (mD : mg "is_digit" = some (.ref fD))
    (bN : Binds K fd ["expression"] []) (mN : mg "_names_in" = some (.ref f)) : ∀ n, n ≤ 4 → FnOk P w K mg base CX0 (3 + n) f fd ["expression"] (spNamesX K n)
  | 0, h => (namesIn_step h F GD kD bD mD never_ok bN mN).mono (by omega)
  | n + 1, h => (namesIn_step h F GD kD bD mD ((ok_namesIn F GD kD bD mD bN mN n (by omega)).mono (by omega)) bN mN).mono (by omega)
theorem scNames : FnScope nBl ["statement"] (defScope sNames) := ⟨rfl, rfl, rfl, by decide +kernel, rfl, by decide +kernel, by decide +kernel⟩
theorem ok_namesD {f fN : Addr} {fd fdN : FuncData} (F : Fun K "names_of" "names_of" sNames f fd)
    (GN : FnOk P w K mg base CX0 7 fN fdN ["expression"] (spNamesX K 4)) (kN : PySem.W.keepIn K (.ref fN) = true) (bN : Binds K fdN ["expression"] []) (mN : mg "_names_in" = some (.ref fN)) : FnOk P w K mg base CX0 8 f fd ["statement"] (spStrs K namesB) := by
  refine F.ok scNames (fun vs H Q E h => ?_) (fun cdv A outer s H vs Q E hr h => ?_)
  · obtain ⟨v, d, rfl, _⟩ := h
    rfl
  · obtain ⟨v, d, rfl, r, hs, k⟩ := h
    obtain ⟨g, l, hk, hg, el⟩ := stmt_inv hs
    obtain ⟨p, xs, rfl, hp, ra⟩ := (el ▸ r : Rp K H v (.tup (.str (headB d) :: l))).tup_inv
    have hl := ra.len
    have ll := len_of el
    obtain ⟨v0, x0, r0⟩ := ra.get (i := 0) rfl
    cases r0
    have ge : ∀ {a b : Str}, a ≠ b → ¬ decide (V.str a = V.str b) = true := fun h z => h (V.str.inj (of_decide_eq_true z))
    refine ⟨_, pss_cons (ps_set (i := 1) scNames.nd rfl (Or.inl rfl) (pe_ix ix_tup (pv 0) pe_int (fun _ _ => rfl)))
      (pss_cons (ps_if (pt_cmpR op_eq (pv 1) pe_str (nomark _)) (pss_one (ps_ret (pe_lst (pa_cons (pe_ix ix_tup (pv 0) pe_int (fun _ _ => rfl)) (StX.pa_star (pe_call GN hr (by rfl) mN kN bN .nil pass0 (pa_cons (pe_ix ix_tup (pv 0) pe_int (fun _ _ => rfl)) pa_nil)) pa_nil))))) pss_nil)
      (pss_cons (ps_if (pt_cmpR op_eq (pv 1) pe_str (nomark _)) (pss_one (ps_ret (pe_call GN hr (by rfl) mN kN bN .nil pass0 (pa_cons (pe_ix ix_tup (pv 0) pe_int (fun _ _ => rfl)) pa_nil)))) pss_nil)
      (pss_cons (ps_if (pt_cmpR op_eq (pv 1) pe_str (nomark _)) (pss_one (ps_ret (pe_call GN hr (by rfl) mN kN bN .nil pass0 (pa_cons (pe_ix ix_tup (pv 0) pe_int (fun _ _ => rfl)) pa_nil)))) pss_nil)
      (pss_cons (ps_if (pt_cmpR op_eq (pv 1) pe_str (nomark _)) (pss_one (ps_ret (pe_lst (pa_cons (pe_ix ix_tup (pv 0) pe_int (fun _ _ => rfl)) pa_nil)))) pss_nil)
      (pss_cons (ps_if (pt_cmpR op_eq (pv 1) pe_str (nomark _)) (pss_one (ps_ret
          (pe_lc (own := [("row", 2)]) (g := gName 2) (tt := tYes) (te := tOp (rIxT K) (tVar 2) (tC (.int 1))) rfl scNames.nd (pi_tup (pe_ix ix_tup (pv 0) pe_int (fun _ _ => rfl))) (blkOk_by (N := nBl) (sc := defScope sNames) (by decide +kernel)) (fun _ _ _ _ _ => pg_name (i := 2) scNames.nd rfl (Or.inl rfl)) (fun _ _ _ _ _ => pts_nil)
            (fun _ _ _ _ _ => pe_ix ix_tup (pv 2) pe_int (fun _ _ => rfl))))) pss_nil)
      (pss_one (ps_ret (pe_lst pa_nil)))))))), ?_⟩
    refine ⟨_, rfl, p, _, _, _, rfl, rfl, SqT.of hp, at_of (j := 0) rfl x0, ?_⟩
    refine ⟨_, rfl, rfl, _, rfl, ?_⟩
    by_cases c1 : headB d = "set"
    · refine ite2 (fun _ => ?_) (fun z => absurd (decide_eq_true (by rw [c1])) z)
      have hb : namesB d = strB (argB d 1) :: namesX 4 (argB d 2) := by unfold namesB; rw [if_pos c1]
      rw [hb] at k
      obtain ⟨h1, h2, h3⟩ := tell_len hs (.inl c1)
      obtain ⟨v1, x1, r1⟩ := arg_at (i := 1) ra (by rw [← ll, h1]; decide)
      obtain ⟨v2, x2, r2⟩ := arg_at (i := 2) ra (by rw [← ll, h1]; decide)
      rw [← el] at r1 r2
      obtain rfl := name_inv r1 h2
      refine ⟨_, rfl, p, _, _, _, rfl, rfl, SqT.of hp, at_of (j := 1) rfl x1, _, rfl, p, _, _, _, rfl, rfl, SqT.of hp, at_of (j := 2) rfl x2, v2, argB d 2, rfl, r2, h3, fun q H1 s1 nq hq => ⟨q, _, rfl, .inr (SqL.of hq), ?_⟩⟩
      have few := names_few 4 (argB d 2) h3
      refine ⟨?_, fun q2 nq2 => k q2 _ (s1.trans (Same.new nq2)) (s1.free nq2) ?_⟩
      · show ((List.map V.str _) ++ []).length + 1 ≤ sizeLine
        rw [List.append_nil, List.length_map]
        exact Nat.le_trans (show _ ≤ 17 by omega) (by decide)
      · rw [upd_same, List.append_nil]
        rfl
    refine ite2 (fun z => absurd z (ge c1)) fun _ => ?_
    refine ⟨_, rfl, rfl, _, rfl, ?_⟩
    by_cases c2 : headB d = "tell"
    · refine ite2 (fun _ => ?_) (fun z => absurd (decide_eq_true (by rw [c2])) z)
      have hb : namesB d = namesX 4 (argB d 2) := by unfold namesB; rw [if_neg c1, if_pos c2]
      rw [hb] at k
      obtain ⟨h1, h2, h3⟩ := tell_len hs (.inr c2)
      obtain ⟨v2, x2, r2⟩ := arg_at (i := 2) ra (by rw [← ll, h1]; decide)
      rw [← el] at r2
      exact ⟨_, rfl, p, _, _, _, rfl, rfl, SqT.of hp, at_of (j := 2) rfl x2, v2, argB d 2, rfl, r2, h3, fun q H1 s1 nq hq => k q H1 s1 nq hq⟩
    refine ite2 (fun z => absurd z (ge c2)) fun _ => ?_
    refine ⟨_, rfl, rfl, _, rfl, ?_⟩
    by_cases c3 : headB d = "if"
    · refine ite2 (fun _ => ?_) (fun z => absurd (decide_eq_true (by rw [c3])) z)
      have hb : namesB d = namesX 4 (argB d 1) := by unfold namesB; rw [if_neg c1, if_neg c2, if_pos c3]
      rw [hb] at k
      obtain ⟨h1, _, _, h3⟩ := if_len hs c3
      obtain ⟨v1, x1, r1⟩ := arg_at (i := 1) ra (by rw [← ll, h1]; decide)
      rw [← el] at r1
      exact ⟨_, rfl, p, _, _, _, rfl, rfl, SqT.of hp, at_of (j := 1) rfl x1, v1, argB d 1, rfl, r1, h3, fun q H1 s1 nq hq => k q H1 s1 nq hq⟩
    refine ite2 (fun z => absurd z (ge c3)) fun _ => ?_
    refine ⟨_, rfl, rfl, _, rfl, ?_⟩
    by_cases c5 : headB d = "hear"
    · refine ite2 (fun _ => ?_) (fun z => absurd (decide_eq_true (by rw [c5])) z)
      have hb : namesB d = [strB (argB d 2)] := by unfold namesB; rw [if_neg c1, if_neg c2, if_neg c3, if_pos c5]
      rw [hb] at k
      obtain ⟨h1, h2, h3⟩ := hear_len hs c5
      obtain ⟨v2, x2, r2⟩ := arg_at (i := 2) ra (by rw [← ll, h1]; decide)
      rw [← el] at r2
      obtain rfl := name_inv r2 h3
      exact ⟨_, rfl, p, _, _, _, rfl, rfl, SqT.of hp, at_of (j := 2) rfl x2, (by show 1 ≤ sizeLine; decide), fun q nq => k q _ (Same.new nq) nq upd_same⟩
    refine ite2 (fun z => absurd z (ge c5)) fun _ => ?_
    refine ⟨_, rfl, rfl, _, rfl, ?_⟩
    by_cases c4 : headB d = "wait"
    · refine ite2 (fun _ => ?_) (fun z => absurd (decide_eq_true (by rw [c4])) z)
      have hb : namesB d = (listB (argB d 1)).map fun r => strB (argB r 1) := by unfold namesB; rw [if_neg c1, if_neg c2, if_neg c3, if_neg c5, if_pos c4]
      obtain ⟨z1, z2, z3, _⟩ := wait_len hs c4
      rw [hb] at k
      obtain ⟨v1, x1, r1⟩ := arg_at (i := 1) ra (by rw [← ll, z1]; decide)
      rw [← el] at r1
      obtain ⟨m, em, lm⟩ := choice_inv z2
      rw [em] at r1 k z3
      obtain ⟨q1, ys, rfl, hq1, rm⟩ := r1.tup_inv
      refine ⟨_, rfl, p, _, _, _, rfl, rfl, SqT.of hp, at_of (j := 1) rfl x1, q1, rfl, ⟨_, SqT.of hq1⟩, fun D nD => lc_it (walk_tup (xs := ys)) (fun i H' => Same H H' ∧ H' D = some (.lst (((m.map fun r => strB (argB r 1)).take i).map V.str))) ⟨Same.new nD, upd_same⟩ (fun i H' _ z => SqT.of (z.1 _ _ hq1)) ?_ ?_⟩
      · rintro i x Ha Hb hi ⟨sa, da⟩ ⟨e, ex⟩
        subst e
        have li : i < m.length := by rw [← rm.len]; exact hi
        obtain ⟨vi, ev, rv⟩ := rm.get (i := i) (d := m[i]) (List.getElem?_eq_getElem li)
        obtain rfl := Option.some.inj (ev.symm.trans ex)
        have hrow := z3 _ (List.getElem_mem li)
        obtain ⟨lr, er, l3⟩ := row_len hrow
        have rn := (row_names hrow).2
        have rv' := rv
        rw [er] at rv'
        obtain ⟨pr, xr, rfl, hpr, rr⟩ := rv'.tup_inv
        obtain ⟨vz, evz, rz⟩ := arg_at (i := 1) rr (by omega)
        rw [← er] at rz
        obtain rfl := name_inv rz rn
        have lc : (m.map fun r => strB (argB r 1))[i]? = some (strB (argB m[i] 1)) := by rw [List.getElem?_map, List.getElem?_eq_getElem li]; rfl
        refine ⟨rfl, _, rfl, pr, _, _, _, rfl, rfl, SqT.of (sa _ _ hpr), at_of (j := 1) rfl evz, _, da, ?_, fun b o e => ?_, ?_⟩
        · rw [List.length_map, List.length_take, List.length_map]
          exact Nat.lt_of_le_of_lt (Nat.min_le_right _ _) (Nat.lt_of_le_of_lt lm (by decide))
        · rw [upd_ne (ne_of_none e nD)]
          exact sa _ _ e
        · rw [upd_same, List.take_add_one, lc]
          simp
      · rintro H1 ⟨s1, d1⟩
        rw [List.take_of_length_le (by rw [List.length_map, rm.len]; exact Nat.le_refl _)] at d1
        exact k D H1 s1 nD d1
    refine ite2 (fun z => absurd z (ge c4)) fun _ => ?_
    have hb : namesB d = [] := by unfold namesB; rw [if_neg c1, if_neg c2, if_neg c3, if_neg c5, if_neg c4]
    rw [hb] at k
    exact ⟨by decide, fun q nq => k q _ (Same.new nq) nq upd_same⟩
end
end Oh
namespace Oh
open PySem PySem.Spec PyProof.Rows L2 PpSet
section
variable {P : Program} {w : World} {K : PySem.W.Frag} {mg : Str → Option Value} {base : Heap} {kw pk ck : Addr}
theorem ok_layD {fL fB : Addr} {fdL fdB : FuncData} (F : Fun K "laid_out" "laid_out" sLaid fL fdL) (T : TxtP mg)
    (GB : FnOk P w K mg base CX0 1 fB fdB ["statement"] (spBlocks K)) (kB : PySem.W.keepIn K (.ref fB) = true) (bB : Binds K fdB ["statement"] []) (mB : mg "blocks_of" = some (.ref fB))
    (bL : Binds K fdL ["block", "path", "behind", "outside"] []) (mL : mg "laid_out" = some (.ref fL)) : ∀ f, FnOk P w K mg base CX0 (2 + f) fL fdL ["block", "path", "behind", "outside"] (spLay K f)
  | 0 => (lay_step (f := 0) F T GB kB bB mB never_ok bL mL).mono (by omega)
  | f + 1 => (lay_step (f := f + 1) F T GB kB bB mB ((ok_layD F T GB kB bB mB bL mL f).mono (by omega)) bL mL).mono (by omega)
end
end Oh
/-! Dict comprehensions whose keys are tuples of ints and texts. -/
namespace Oh
open PySem PySem.Spec PyProof.Rows L2
section
variable {X : Cx}
theorem put_tuple {pins : List (Addr × Obj)} {σ : L2.St} {H : Hp} {s : Shared} {E : Value → Shared → Prop} {D b : Addr} {kvs : List (List L2.Key × V)} {k : List L2.Key} {v : V} {u r : Value} {Q : Unit → Shared → Prop} (hu : X.A.units < cLine) (I : Inv X pins σ H s) (hD : H D = some (.dT kvs))
    (hz : kvs.length < sizeLine) (ek : H b = some (.tup (k.map kV))) (ru : RelV (.ref b) u) (rv : RelV v r) (h : ∀ s', Inv X pins σ (upd H D (.dT (putK kvs k v))) s' → Q () s') : wpAny (model X.prog X.w) X.A (dictSet D u r) Q E s := by
  cases (show u = Value.ref b from ru)
  obtain ⟨z, hd, xs, rel, dd⟩ := dt_of I.hok hD
  have zx : xs.length ≤ sizeLine := by rw [← Paired.length rel]; exact z
  have zl : (putK kvs k v).length ≤ sizeLine := by have := length_putK kvs k v; omega
  refine wpAny_dictSet_heap (hsz := zx) (show (tupleKind (mixKind X.prog X.w)).room X.A from hu) (key_of I.hok ek) dd fun h' dd' hs => h _ ?_
  obtain ⟨q, es, ep, hq, h2, h3, h4, _, h5⟩ := dd'
  refine d_write I (by rw [hD]; exact True.intro) hs ⟨q, hq⟩ ⟨zl, hd, _, (rel.put k ek rv).keeps fun c ys ec => ?_, q, es, ep, hq, h2, h3, h4, h5⟩
  rw [upd_ne (ne_of ec hD (fun z => nomatch z))]
  exact ec
/-- {k: v for target in iter if ..}, the keys tuples of ints and texts -/
def tDcT (wi : TI) (g : TG) (tt : TT) (tk tv : TE) (vs : List Nat) : TE := fun σ H Q => wi σ H fun J H1 => ∀ D, H1 D = none → ∃ W : Nat → Nat → Hp → Prop, (∃ m, W 0 m (upd H1 D (.dT []))) ∧ ∀ i m H, W i m H →
  (J.stop i H ∧ Q (.ref D) H) ∨ (J.go i H ∧ ∃ Nx : Hp → Prop, (∀ H', Nx H' → ∃ m', m' < m ∧ W (i + 1) m' H') ∧ ∀ x H', J.yld i H x H' → g x (wipe σ vs) H' fun σ2 H2 => wipe σ2 vs = wipe σ vs ∧ tt σ2 H2 fun b H3 =>
    if b = true then tk σ2 H3 fun y H4 => tv σ2 H4 fun z H5 => ∃ (c : Addr) (kvs : List (List L2.Key × V)) (k : List L2.Key), y = .ref c ∧ H5 c = some (.tup (k.map kV)) ∧ H5 D = some (.dT kvs) ∧ kvs.length < sizeLine ∧ Nx (upd H5 D (.dT (putK kvs k z))) else Nx H3)
theorem dcT_core {pins : List (Addr × Obj)} {s : Shared} {σ : L2.St} {H : Hp} {Q : VK} {kx vx tg iter : Expr} {ifs : List Expr} {scope : Scope} {own : List (PySem.Str × Nat)} {pos pos' : Pos} {wi : TI} {g : TG} {tt : TT} {tk tv : TE} {use : Option (Value → Sem Unit)} {Qf : Value → Shared → Prop}
    (hu : X.A.units < cLine) (hc : X.calm = true) (hN : X.N.Nodup) (I : Inv X pins σ H s) (hi : PI X tg iter wi) (ok : BlkOk X.N X.env.scope scope own)
    (hg : ∀ (s : Shared) (H : Hp) (C : Addr) (cl : List (PySem.Str × Addr)) (fp : List Addr), PG (X.blk s H scope (compEnvC scope cl C X.env) fp) tg g)
    (ht : ∀ (s : Shared) (H : Hp) (C : Addr) (cl : List (PySem.Str × Addr)) (fp : List Addr), PTs (X.blk s H scope (compEnvC scope cl C X.env) fp) ifs tt)
    (hk : ∀ (s : Shared) (H : Hp) (C : Addr) (cl : List (PySem.Str × Addr)) (fp : List Addr), PE (X.blk s H scope (compEnvC scope cl C X.env) fp) kx tk)
    (he : ∀ (s : Shared) (H : Hp) (C : Addr) (cl : List (PySem.Str × Addr)) (fp : List Addr), PE (X.blk s H scope (compEnvC scope cl C X.env) fp) vx tv)
    (hs : ∀ x, foldedSetIterable iter X.env x = pure x) (h : tDcT wi g tt tk tv (own.map (·.2)) σ H Q)
    (hRR : ∀ D C s' m H', Inv X pins σ H' s' → Q (.ref D) H' → s'.heap.Ns C m → FpOk X pins H' C → compPost (model X.prog X.w) X.A X.xe use Qf (.ref D) C (.ok .next) s') :
    wpAny (model X.prog X.w) X.A (comprehension (.DictComp kx vx [⟨tg, iter, ifs, 0⟩] scope pos) scope X.env pos' newDict false (eval iter X.env) use) Qf X.xe s := by
  have closes : ∀ y ∈ scope.names, y.2 = .free → ∃ c, X.env.cells.lookup y.1 = some c := fun y hy e => (ok.free y hy e).elim (fun k => I.ok.has _ (.inl k)) fun k => I.ok.has _ (.inr k)
  refine wpAny_comprehension_free (use := use) rfl hs (closure_ok closes) ok.kind (fun y hy e => by rw [ok.uniq y hy, e]) (thn (hi.run pins s σ H _ I h) fun xv s1 hx => thn hx fun itv s2 h2 => ?_)
  obtain ⟨it, fp, tn, J, H2, e, I2, T, st2, f2, q⟩ := h2
  subst e
  refine wpAny_newObj_type (newEnv_comp ?_)
  generalize hD : s2.heap.objs.size = D
  obtain ⟨W, ⟨m0, w0⟩, turn⟩ := q D (I2.hok.fresh (Nat.le_of_eq hD))
  generalize hs3 : ({ s2 with heap := s2.heap.push { cls := .type "dict", data := .dict #[] } } : Shared) = s3
  have h3 : s3.heap = s2.heap.push { cls := .type "dict", data := .dict #[] } := by rw [← hs3]
  have I3 : Inv X pins σ (upd H2 D (.dT [])) s3 := by
    rw [← hs3]
    refine I2.laid (t' := s2.toks) (fun b o z => Heap.get?_push_of_some _ z) (Nat.le_of_eq hD) ?_
    rw [← hD]
    exact dt_empty s2.heap I2.big
  have f3 : ∀ b ∈ fp, FpOk X pins (upd H2 D (.dT [])) b ∧ b < s3.heap.objs.size := fun b hb => by
    obtain ⟨o, eo, _⟩ := T.obj _ _ st2 b hb
    have lt : b < s2.heap.objs.size := Heap.lt_size eo
    refine ⟨⟨?_, (f2 b hb).2⟩, by rw [h3, Heap.size_push]; exact Nat.lt_succ_of_lt lt⟩
    rw [upd_ne (by rw [← hD]; exact Nat.ne_of_lt lt)]
    exact (f2 b hb).1
  have st3 : tn 0 s3.heap := T.keep _ _ _ st2 fun b _ o z => by rw [h3]; exact Heap.get?_push_of_some _ z
  have I4 := block_start I3 ok hN f3
  have j1 := hg s3 (upd H2 D (.dT [])) s3.heap.objs.size (cellsFrom (s3.heap.objs.size + 1) scope.names (cloFrom X.env.cells scope.names [])) fp
  have j2 := ht s3 (upd H2 D (.dT [])) s3.heap.objs.size (cellsFrom (s3.heap.objs.size + 1) scope.names (cloFrom X.env.cells scope.names [])) fp
  have j3 := hk s3 (upd H2 D (.dT [])) s3.heap.objs.size (cellsFrom (s3.heap.objs.size + 1) scope.names (cloFrom X.env.cells scope.names [])) fp
  have j4 := he s3 (upd H2 D (.dT [])) s3.heap.objs.size (cellsFrom (s3.heap.objs.size + 1) scope.names (cloFrom X.env.cells scope.names [])) fp
  show codeAny _ _ (.compStart (.DictComp kx vx [⟨tg, iter, ifs, 0⟩] scope pos) 0 (.ref it) (.ref D) (compEnvC scope (cellsFrom (s3.heap.objs.size + 1) scope.names (cloFrom X.env.cells scope.names [])) s3.heap.objs.size X.env)) (compPost (model X.prog X.w) X.A X.xe use Qf (.ref D) s3.heap.objs.size) { s3 with heap := pushCells (s3.heap.push { cls := .type "dict", data := .dict #[] }) scope.names }
  have none3 : ∀ b ∈ fp, (upd H2 D (.dT [])) b = none := fun b hb => (f3 b hb).1.1
  generalize hce : compEnvC scope (cellsFrom (s3.heap.objs.size + 1) scope.names (cloFrom X.env.cells scope.names [])) s3.heap.objs.size X.env = ce at I4 j1 j2 j3 j4 ⊢
  have cL : ce.locals = s3.heap.objs.size := by subst hce; rfl
  generalize hH3 : upd H2 D (.dT []) = H3 at I3 I4 j1 j2 j3 j4 w0 none3 f3
  generalize hs4 : ({ s3 with heap := pushCells (s3.heap.push { cls := .type "dict", data := .dict #[] }) scope.names } : Shared) = s4 at I4 ⊢
  have st4 : tn 0 s4.heap := T.keep _ _ _ st3 fun b _ o z => by rw [← hs4]; exact pushCells_keeps _ _ _ _ (Heap.get?_push_of_some _ z)
  have own4 : ∀ {σ' : L2.St} {H' : Hp} {s' : Shared}, Inv (X.blk s3 H3 scope ce fp) [] σ' H' s' → (∀ b ∈ fp, H' b = none) → ∀ b ∈ fp, FpOk (X.blk s3 H3 scope ce fp) [] H' b := fun {σ' H' s'} I' hn b hb =>
    ⟨hn b hb, (I'.ok.exf b hb).1, I'.ok.exfs b hb, .inl hb, fun x c e => (I'.ok.exf b hb).2 x c e, fun p hp => absurd (show p ∈ ([] : List (Addr × Obj)) ++ [] from hp) (by simp)⟩
  have loop : codeAny (model X.prog X.w) X.A (.compLoop (.DictComp kx vx [⟨tg, iter, ifs, 0⟩] scope pos) 0 (.ref it) (.ref D) ce) (compPost (model X.prog X.w) X.A X.xe use Qf (.ref D) s3.heap.objs.size) s4 := by
    refine compLoop_anyD (fun n s' => ∃ i H', Inv (X.blk s3 H3 scope ce fp) [] (wipe σ (own.map (·.2))) H' s' ∧ tn i s'.heap ∧ (∀ b ∈ fp, H' b = none) ∧ W i n H') ?_ m0 ⟨0, H3, I4, st4, none3, w0⟩
    rintro n s5 ⟨i, H5, I5, st5, n5, w5⟩
    rcases turn i n H5 w5 with ⟨stop, qq⟩ | ⟨go, Nx, hNx, step⟩
    · refine thnF (T.done (X.blk s3 H3 scope ce fp) rfl rfl rfl hc i [] s5 _ H5 (fun _ _ => False) I5 (own4 I5 n5) st5 stop) fun r s6 ⟨hr, I6⟩ => ?_
      subst hr
      have I7 : Inv X pins σ H5 s6 := I3.call' (ch := fp) I6.os I6.base I6.hok I6.bare fun b hb => ⟨(f3 b hb).1.2.2.2.1, (f3 b hb).1.2.1, (f3 b hb).1.2.2.2.2.1, (f3 b hb).1.2.2.2.2.2⟩
      have nC : H5 s3.heap.objs.size = none := by
        have z : H5 ce.locals = none := I6.free
        rw [cL] at z
        exact z
      obtain ⟨m, hn, _⟩ := I6.loc
      have hn : s6.heap.Ns ce.locals m := hn
      rw [cL] at hn
      exact hRR D s3.heap.objs.size s6 m H5 I7 qq hn (I3.fpOk (Nat.le_refl _) nC)
    · refine thnF (T.item (X.blk s3 H3 scope ce fp) rfl rfl rfl hc i [] s5 _ H5 (fun _ _ => False) I5 (own4 I5 n5) st5 go) fun r s6 ⟨u, hr, h6⟩ => ?_
      subst hr
      refine thnF h6 fun _ s7 ⟨x, H7, I7, r7, y7, st7, n7⟩ => ?_
      refine thnF (j1.run _ s7 _ H7 x u _ (I7.pinned (own4 I7 n7) (T.obj _ _ st7)) r7 (step x H7 y7)) fun _ s8 ⟨σ8, H8, I8, hw8, q8⟩ => ?_
      refine thnF (j2.run _ s8 σ8 H8 _ I8 q8) fun b s9 ⟨H9, I9, q9⟩ => ?_
      have over : ∀ {s' : Shared} {H' : Hp}, Inv (X.blk s3 H3 scope ce fp) ([] ++ pinsAt fp s7.heap) σ8 H' s' → Nx H' → ∃ m, m < n ∧ ∃ i H', Inv (X.blk s3 H3 scope ce fp) [] (wipe σ (own.map (·.2))) H' s' ∧ tn i s'.heap ∧ (∀ b ∈ fp, H' b = none) ∧ W i m H' := fun {s' H'} I' nx => by
        obtain ⟨m', hm, w'⟩ := hNx H' nx
        have pin : ∀ b ∈ fp, ∀ o, s7.heap.get? b = some o → s'.heap.get? b = some o ∧ H' b = none := fun b hb o z =>
          have y := I'.pin (b, o) (List.mem_append_right _ (List.mem_append_right _ (mem_pinsAt hb z)))
          ⟨y.1, y.2.1⟩
        refine ⟨m', hm, i + 1, H', (I'.unpinned (pins := [])).weak (by rw [← hw8, wipe_length]) (fun j v z => by rw [← hw8] at z; exact (wipe_some z).1), T.keep _ _ _ st7 fun b hb o z => (pin b hb o z).1, fun b hb => ?_, w'⟩
        obtain ⟨o, z, _⟩ := T.obj _ _ st7 b hb
        exact (pin b hb o z).2
      cases b with
      | false =>
        simp only [Bool.false_eq_true, if_false] at q9 ⊢
        exact over I9 q9
      | true =>
        simp only [if_true] at q9 ⊢
        refine thnF (j3.run _ s9 σ8 H9 _ I9 q9) fun z s10 ⟨yk, H10, I10, r10, q10⟩ => ?_
        refine thnF (j4.run _ s10 σ8 H10 _ I10 q10) fun z2 s11 ⟨yv, H11, I11, r11, c, kvs, k, ek, hc11, hD11, hz11, nx⟩ => ?_
        subst ek
        exact put_tuple (X := X.blk s3 H3 scope ce fp) hu I11 hD11 hz11 hc11 r10 r11 fun s12 I12 => over I12 nx
  exact codeAny_compStart_dict loop (T.self X.A 0 _ _ _ st4 loop)
theorem pe_dcT {kx vx tg iter : Expr} {ifs : List Expr} {scope : Scope} {own : List (PySem.Str × Nat)} {pos : Pos} {wi : TI} {g : TG} {tt : TT} {tk tv : TE} (hu : X.A.units < cLine) (hc : X.calm = true) (hN : X.N.Nodup) (hi : PI X tg iter wi) (ok : BlkOk X.N X.env.scope scope own)
    (hg : ∀ (s : Shared) (H : Hp) (C : Addr) (cl : List (PySem.Str × Addr)) (fp : List Addr), PG (X.blk s H scope (compEnvC scope cl C X.env) fp) tg g)
    (ht : ∀ (s : Shared) (H : Hp) (C : Addr) (cl : List (PySem.Str × Addr)) (fp : List Addr), PTs (X.blk s H scope (compEnvC scope cl C X.env) fp) ifs tt)
    (hk : ∀ (s : Shared) (H : Hp) (C : Addr) (cl : List (PySem.Str × Addr)) (fp : List Addr), PE (X.blk s H scope (compEnvC scope cl C X.env) fp) kx tk)
    (he : ∀ (s : Shared) (H : Hp) (C : Addr) (cl : List (PySem.Str × Addr)) (fp : List Addr), PE (X.blk s H scope (compEnvC scope cl C X.env) fp) vx tv) (hs : ∀ x, foldedSetIterable iter X.env x = pure x := by intro _; rfl) :
    PE X (.DictComp kx vx [⟨tg, iter, ifs, 0⟩] scope pos) (tDcT wi g tt tk tv (own.map (·.2))) := by
  refine ⟨fun pins s σ H Q I h => ?_⟩
  rw [arm_eval_DictComp]
  refine dcT_core hu hc hN I hi ok hg ht hk he hs h fun D C s' m H' I' q hn f => ⟨m, hn, fun h'' sb => ?_⟩
  obtain ⟨f0, f1, f2, f3, f4, f5⟩ := f
  exact ⟨.ref D, H', I'.turned (t' := s'.toks) (fun b o hb z => (sb.2 b hb).trans z) f0 f1 f3 f4 f5, rfl, q⟩
end
end Oh
namespace Oh
open PySem PySem.Spec PyProof.Rows L2
abbrev sNamesOf : Stmt := top 29
abbrev sPortsOf : Stmt := top 31
abbrev sRInit : Stmt := inClass (top 47) 0
abbrev sREq : Stmt := inClass (top 47) 1
section
variable {P : Program} {w : World} {K : PySem.W.Frag} {mg : Str → Option Value} {base : Heap}
theorem scNamesOf : FnScope ["statement", "head", "row"] ["statement"] (defScope sNamesOf) := ⟨rfl, rfl, rfl, by decide +kernel, rfl, by decide +kernel, by decide +kernel⟩
theorem ok_namesOf {f : Addr} {fd : FuncData} (F : Fun K "names_of" "names_of" sNamesOf f fd) : FnOk P w K mg base CX0 1 f fd ["statement"] spBlocksOf := by
  refine F.ok scNamesOf (fun vs H Q E h => ?_) (fun cdv A outer s H vs Q E hr h => ?_)
  · obtain ⟨p, rfl, _⟩ := h
    rfl
  · obtain ⟨S, rfl, hS, k⟩ := h
    refine ⟨_, pss_cons (ps_set (i := 1) scNamesOf.nd rfl (Or.inl rfl) (pe_ix ix_tup (pv 0) pe_int (fun _ _ => rfl)))
      (pss_cons (ps_if (pt_cmpR op_eq (pv 1) pe_str (nomark _)) pss_never pss_nil)
      (pss_cons (ps_if (pt_cmpR op_eq (pv 1) pe_str (nomark _)) pss_never pss_nil)
      (pss_cons (ps_if (pt_cmpR op_eq (pv 1) pe_str (nomark _)) pss_never pss_nil)
      (pss_cons (ps_if (pt_cmpR op_eq (pv 1) pe_str (nomark _)) pss_never pss_nil)
      (pss_cons (ps_if (pt_cmpR op_eq (pv 1) pe_str (nomark _)) pss_never pss_nil)
      (pss_one (ps_ret (pe_lst pa_nil)))))))), ?_⟩
    refine ⟨_, rfl, S, _, _, _, rfl, rfl, SqT.of hS, rfl, ?_⟩
    refine ⟨_, rfl, rfl, _, rfl, ite2 (fun z => absurd z (by decide)) fun _ => ?_⟩
    refine ⟨_, rfl, rfl, _, rfl, ite2 (fun z => absurd z (by decide)) fun _ => ?_⟩
    refine ⟨_, rfl, rfl, _, rfl, ite2 (fun z => absurd z (by decide)) fun _ => ?_⟩
    refine ⟨_, rfl, rfl, _, rfl, ite2 (fun z => absurd z (by decide)) fun _ => ?_⟩
    refine ⟨_, rfl, rfl, _, rfl, ite2 (fun z => absurd z (by decide)) fun _ => ?_⟩
    exact ⟨by decide, fun p np => k p _ (Same.new np) np upd_same⟩
theorem scPortsOf : FnScope ["statement", "head", "row"] ["statement"] (defScope sPortsOf) := ⟨rfl, rfl, rfl, by decide +kernel, rfl, by decide +kernel, by decide +kernel⟩
theorem ok_portsOf {f : Addr} {fd : FuncData} (F : Fun K "ports_of" "ports_of" sPortsOf f fd) : FnOk P w K mg base CX0 1 f fd ["statement"] spBlocksOf := by
  refine F.ok scPortsOf (fun vs H Q E h => ?_) (fun cdv A outer s H vs Q E hr h => ?_)
  · obtain ⟨p, rfl, _⟩ := h
    rfl
  · obtain ⟨S, rfl, hS, k⟩ := h
    refine ⟨_, pss_cons (ps_set (i := 1) scPortsOf.nd rfl (Or.inl rfl) (pe_ix ix_tup (pv 0) pe_int (fun _ _ => rfl)))
      (pss_cons (ps_if (pw_or (pt_cmpR op_eq (pv 1) pe_str (nomark _)) (pw_or1 (pt_cmpR op_eq (pv 1) pe_str (nomark _)))).pt pss_never pss_nil)
      (pss_cons (ps_if (pt_cmpR op_eq (pv 1) pe_str (nomark _)) pss_never pss_nil)
      (pss_one (ps_ret (pe_lst pa_nil))))), ?_⟩
    refine ⟨_, rfl, S, _, _, _, rfl, rfl, SqT.of hS, rfl, ?_⟩
    refine ⟨_, rfl, rfl, _, rfl, ite2 (fun z => absurd z (by decide)) fun _ => ⟨_, rfl, rfl, _, rfl, ite2 (fun z => absurd z (by decide)) fun _ => ?_⟩⟩
    refine ⟨_, rfl, rfl, _, rfl, ite2 (fun z => absurd z (by decide)) fun _ => ?_⟩
    exact ⟨by decide, fun p np => k p _ (Same.new np) np upd_same⟩
end
/-! ### the error raised -/
/-- self.what = what, the new dict told apart -/
def spEInitN (K : PySem.W.Frag) (f1 : Addr) : Sp := fun vs H Q _ => ∃ (a C : Addr) (v : V), vs = [.ref a, v] ∧ ErrC K f1 C ∧ H a = some (exo a C none) ∧ ∀ d, H d = none → d ≠ a → Q .non (upd (upd H d (exd d [("what", v)])) a (exo a C (some d)))
section
variable {P : Program} {w : World} {K : PySem.W.Frag} {mg : Str → Option Value} {base : Heap} {f1 hBR : Addr}
theorem ok_einitN {fd : FuncData} (F : EInit K f1 fd) : FnOk P w K mg base CX0 1 f1 fd ["self", "what"] (spEInitN K f1) := by
  refine F.ok scEInit (fun vs H Q E h => ?_) (fun cdv A outer s H vs Q E hr h => ?_)
  · obtain ⟨a, C, v, rfl, _⟩ := h
    rfl
  · obtain ⟨a, C, v, rfl, T, ha, k⟩ := h
    refine ⟨_, pss_one (ps_ost (pv 0) (pv 1)), ?_⟩
    exact ⟨_, rfl, _, rfl, a, C, rfl, T.ox, T.no, .inl ⟨ha, fun dx nd ne => k dx nd ne⟩⟩
/-- raise C(e): what its reading asks -/
theorem mko_err {H1 : Hp} {v : V} {C : Addr} {Q : XK} (T : ErrC K f1 C) (q : ∀ d, H1 d = none → Q (.ref C) (some d) (upd H1 d (.xd [("what", v)]))) :
    ([v] : List V).length ≤ 1000 ∧ ∀ a, H1 a = none → spEInitN K f1 (.ref a :: ([v] ++ [])) (upd H1 a (exo a C none))
      (fun u H2 => u = .non ∧ ∃ (d : Addr) (fs : List (Str × V)), H2 a = some (exo a C (some d)) ∧ H2 d = some (exd d fs) ∧ H1 d = none ∧ Q (.ref C) (some d) (upd (del H2 a) d (.xd fs))) (fun _ _ _ => False) := by
  refine ⟨by show 1 ≤ 1000; decide, fun a na => ⟨a, C, v, rfl, T, upd_same, fun d nd ne => ?_⟩⟩
  have nd' : H1 d = none := by rw [upd_ne ne] at nd; exact nd
  refine ⟨rfl, d, _, upd_same, by rw [upd_ne ne]; exact upd_same, nd', ?_⟩
  have e : upd (del (upd (upd (upd H1 a (exo a C none)) d (exd d [("what", v)])) a (exo a C (some d))) a) d (.xd [("what", v)]) = upd H1 d (.xd [("what", v)]) := by
    funext b
    by_cases hb : b = d
    · subst hb
      rw [upd_same, upd_same]
    · rw [upd_ne hb, upd_ne hb]
      by_cases ha : b = a
      · subst ha
        rw [del_same, na]
      · rw [del_ne ha, upd_ne ha, upd_ne hb, upd_ne ha]
  rw [e]
  exact q d nd'
/-- raise C(e) -/
theorem ps_raiseE {X : Cx} {W : WX} {x : Str} {C : Addr} {fd : FuncData} {e : Expr} {te : TE} {p pos pos2 : Pos} (hc : X.calm = true) (tk : Takes X W) (T : ErrC X.K f1 C) (tI : PySem.W.typeIn X.K (.ref f1) = some (.type "function"))
    (F1 : FnOk X.prog X.w X.K X.mg X.base CX0 1 f1 fd ["self", "what"] (spEInitN X.K f1)) (hr : Room 2 X.A) (hb : Binds X.K fd ["self", "what"] []) (hm : X.mg x = some (.ref C)) (he : PE X e te) (hg : Gl X x := by rfl) (hdb : (x == ("__debug__" : Str)) = false := by decide)
    (h1 : starEach [e] X.env = (false, eval e X.env) :: starEach [] X.env := by rfl) (hpl : (backTo pos (starEach [] X.env)).any (·.1) = false := by rfl) :
    PS X (.Raise (some (.Call (.Name x p) [e] [] pos)) none pos2) (fun _ σ H => tMkO C (spEInitN X.K f1) [] (tCons te tNil) σ H fun cls d H' => W cls d σ H') :=
  ps_raise (pos := pos2) hc tk (pmk_oex (p := p) (pos := pos) T.ox T.ini tI F1 hr hb .nil pass0 hg hm (pa_cons he pa_nil h1) hdb h1 hpl)
/-- what is due of a block: the block of home alone goes, a list is refused with () -/
def spCheck (hBR : Addr) : Sp := fun vs H Q E => ∃ B, vs = [.ref B] ∧ ((∃ S, HomeB H B S ∧ ∀ H', Same H H' → Q .non H') ∨
  ∃ xs, H B = some (.lst xs) ∧ ∀ d q H', Same H H' → H' d = some (.xd [("what", .ref q)]) → H' q = some (.tup []) → E (.ref hBR) (some d) H')
theorem scCheck : FnScope ["block", "wrong"] ["block"] (defScope sCheck) := ⟨rfl, rfl, rfl, by decide +kernel, rfl, by decide +kernel, by decide +kernel⟩
theorem ok_check {f fI fW fC : Addr} {fd fd1 fdI fdW fdC : FuncData} (F : Fun K "_check" "_check" sCheck f fd) (T : TxtP mg) (TE : ErrC K f1 hBR) (t1 : PySem.W.typeIn K (.ref f1) = some (.type "function")) (FE : EInit K f1 fd1) (mB : mg "BadRoutine" = some (.ref hBR))
    (GI : FnOk P w K mg base CX0 1 fI fdI ["value"] spIsBlock) (kI : PySem.W.keepIn K (.ref fI) = true) (bI : Binds K fdI ["value"] []) (mI : mg "is_block" = some (.ref fI))
    (GW : FnOk P w K mg base CX0 5 fW fdW ["block", "path", "depth", "in_repeat"] spFirst) (kW : PySem.W.keepIn K (.ref fW) = true) (bW : Binds K fdW ["block", "path", "depth", "in_repeat"] []) (mW : mg "first_wrong" = some (.ref fW))
    (GC : FnOk P w K mg base CX0 4 fC fdC ["block"] spCount) (kC : PySem.W.keepIn K (.ref fC) = true) (bC : Binds K fdC ["block"] []) (mC : mg "count_statements" = some (.ref fC)) :
    FnOk P w K mg base (L2.CX P w) 6 f fd ["block"] (spCheck hBR) := by
  refine F.okX scCheck (fun vs H Q E h => ?_) (fun cdv A outer s H vs Q E hr h => ?_)
  · obtain ⟨B, rfl, _⟩ := h
    rfl
  · obtain ⟨B, rfl, h⟩ := h
    have hr1 : Room 1 _ := hr.mono (by decide)
    have hr2 : Room 2 _ := hr.mono (by decide)
    have hr4 : Room 4 _ := hr.mono (by decide)
    obtain ⟨t, mm⟩ := T.most
    have GE : FnOk P w K mg base CX0 1 f1 fd1 ["self", "what"] (spEInitN K f1) := ok_einitN FE
    have bE := b_einit2 FE
    refine ⟨_, pss_cons (ps_if (pt_not (pt_val (pe_call GI hr1 (by rfl) mI kI bI .nil pass0 (pa_cons (pv 0) pa_nil)))) (pss_one (ps_raiseE rfl (takes_of rfl rfl rfl rfl) TE t1 GE hr2 bE mB (pe_tup pa_nil))) pss_nil)
      (pss_cons (ps_set (i := 1) scCheck.nd rfl (Or.inl rfl) (pe_call GW hr (by rfl) mW kW bW .nil pass0 (pa_cons (pv 0) (pa_cons (pe_tup pa_nil) (pa_cons pe_int (pa_cons pe_bl pa_nil))))))
      (pss_cons (ps_if (pt_cmpR op_notN (pv 1) pe_non (nomark _)) pss_never pss_nil)
      (pss_one (ps_if (pt_cmpR op_gt (pe_call GC hr4 (by rfl) mC kC bC .nil pass0 (pa_cons (pv 0) pa_nil)) (pe_glob (v := .int 6000) (by rfl) mm ⟨t, rfl⟩) (nomark _)) pss_never pss_nil)))), ?_⟩
    rcases h with ⟨S, hB, k⟩ | ⟨xs, hB, k⟩
    · refine ⟨_, rfl, B, rfl, .inl ⟨_, hB.1, (by show 1 ≤ 12; decide), ⟨_, rfl, iteF ?_⟩⟩⟩
      refine ⟨_, rfl, by decide, fun q nq => ?_⟩
      have s1 : Same H (upd H q (.tup [])) := Same.new nq
      refine ⟨B, S, q, rfl, hB.keep s1, upd_same, fun H2 s2 => ?_⟩
      refine ⟨_, rfl, rfl, _, rfl, iteF ?_⟩
      refine ⟨_, rfl, B, S, rfl, hB.keep (s1.trans s2), fun H3 s3 => ⟨_, _, rfl, rfl, _, rfl, ite2 (fun z => absurd z (by decide)) fun _ => ?_⟩⟩
      exact k H3 (s1.trans (s2.trans s3))
    · refine ⟨_, rfl, B, rfl, .inr ⟨xs, hB, ⟨_, rfl, iteT ?_⟩⟩⟩
      refine ⟨by decide, fun q nq => ?_⟩
      have s1 : Same H (upd H q (.tup [])) := Same.new nq
      exact mko_err TE fun d nd => k d q _ (s1.trans (Same.new nd)) upd_same ((Same.new nd) _ _ upd_same)
end
end Oh
namespace Oh
open PySem PySem.Spec PyProof.Rows L2 PpSet
/-- what is due of a block: nothing, or the error's `what` -/
def dueB (d : DT) : Option OPath := if blockB d = false then some (some []) else match firstB 11 d [] false with
  | some w => some (some w)
  | none => if countB 11 d > 6000 then some none else none
def spCheckD (K : PySem.W.Frag) (hBR : Addr) : Sp := fun vs H Q E => ∃ v d, vs = [v] ∧ Rp K H v d ∧ (dueB d = none → ∀ H', Same H H' → Q .non H') ∧
  ∀ w, dueB d = some w → ∀ (e : Addr) (u : V) H', Same H H' → H' e = some (.xd [("what", u)]) → PathOr H' u w → E (.ref hBR) (some e) H'
theorem due_none {d : DT} (h : dueB d = none) : blockB d = true ∧ goodB 11 d = true ∧ countB 11 d ≤ 6000 := by
  unfold dueB at h
  cases hb : blockB d with
  | false => rw [hb, if_pos rfl] at h; cases h
  | true =>
    rw [hb, if_neg (by decide)] at h
    cases hf : firstB 11 d [] false with
    | some w => rw [hf] at h; cases h
    | none =>
      rw [hf] at h
      refine ⟨rfl, first_good 11 d [] false (by decide) hb hf, ?_⟩
      by_cases c : countB 11 d > 6000
      · rw [show (match (none : Option (List Nat)) with | some w => some (some w) | none => if countB 11 d > 6000 then some none else none) = if countB 11 d > 6000 then some (none : OPath) else none from rfl, if_pos c] at h
        cases h
      · omega
section
variable {P : Program} {w : World} {K : PySem.W.Frag} {mg : Str → Option Value} {base : Heap} {f1 hBR : Addr}
theorem ok_checkD {f fI fW fC : Addr} {fd fd1 fdI fdW fdC : FuncData} (F : Fun K "_check" "_check" sCheck f fd) (T : TxtP mg) (TE : ErrC K f1 hBR) (t1 : PySem.W.typeIn K (.ref f1) = some (.type "function")) (FE : EInit K f1 fd1) (mB : mg "BadRoutine" = some (.ref hBR))
    (GI : FnOk P w K mg base CX0 1 fI fdI ["value"] (spB K blockB)) (kI : PySem.W.keepIn K (.ref fI) = true) (bI : Binds K fdI ["value"] []) (mI : mg "is_block" = some (.ref fI))
    (GW : FnOk P w K mg base CX0 35 fW fdW ["block", "path", "depth", "in_repeat"] (spFirstD K 11)) (kW : PySem.W.keepIn K (.ref fW) = true) (bW : Binds K fdW ["block", "path", "depth", "in_repeat"] []) (mW : mg "first_wrong" = some (.ref fW))
    (GC : FnOk P w K mg base CX0 13 fC fdC ["block"] (spCountD K 11)) (kC : PySem.W.keepIn K (.ref fC) = true) (bC : Binds K fdC ["block"] []) (mC : mg "count_statements" = some (.ref fC)) :
    FnOk P w K mg base (L2.CX P w) 36 f fd ["block"] (spCheckD K hBR) := by
  refine F.okX scCheck (fun vs H Q E h => ?_) (fun cdv A outer s H vs Q E hr h => ?_)
  · obtain ⟨v, d, rfl, _⟩ := h
    rfl
  · obtain ⟨v, d, rfl, r, k, kx⟩ := h
    have hr1 : Room 1 _ := hr.mono (by decide)
    have hr2 : Room 2 _ := hr.mono (by decide)
    have hr4 : Room 13 _ := hr.mono (by decide)
    obtain ⟨t, mm⟩ := T.most
    have GE : FnOk P w K mg base CX0 1 f1 fd1 ["self", "what"] (spEInitN K f1) := ok_einitN FE
    have bE := b_einit2 FE
    refine ⟨_, pss_cons (ps_if (pt_not (pt_val (pe_call GI hr1 (by rfl) mI kI bI .nil pass0 (pa_cons (pv 0) pa_nil)))) (pss_one (ps_raiseE rfl (takes_of rfl rfl rfl rfl) TE t1 GE hr2 bE mB (pe_tup pa_nil))) pss_nil)
      (pss_cons (ps_set (i := 1) scCheck.nd rfl (Or.inl rfl) (pe_call GW hr (by rfl) mW kW bW .nil pass0 (pa_cons (pv 0) (pa_cons (pe_tup pa_nil) (pa_cons pe_int (pa_cons pe_bl pa_nil))))))
      (pss_cons (ps_if (pt_cmpR op_notN (pv 1) pe_non (nomark _)) (pss_one (ps_raiseE rfl (takes_of rfl rfl rfl rfl) TE t1 GE hr2 bE mB (pv 1))) pss_nil)
      (pss_one (ps_if (pt_cmpR op_gt (pe_call GC hr4 (by rfl) mC kC bC .nil pass0 (pa_cons (pv 0) pa_nil)) (pe_glob (v := .int 6000) (by rfl) mm ⟨t, rfl⟩) (nomark _)) (pss_one (ps_raiseE rfl (takes_of rfl rfl rfl rfl) TE t1 GE hr2 bE mB pe_non)) pss_nil)))), ?_⟩
    refine ⟨_, rfl, v, d, rfl, r, fun H1 s1 => ?_⟩
    cases hb : blockB d with
    | false =>
      have due : dueB d = some (some []) := by unfold dueB; rw [if_pos hb]
      refine ⟨_, rfl, iteT ?_⟩
      refine ⟨by decide, fun q nq => ?_⟩
      have s2 : Same H (upd H1 q (.tup [])) := s1.trans (Same.new nq)
      exact mko_err TE fun e ne => kx _ due e (.ref q) _ (s2.trans (Same.new ne)) upd_same ⟨q, rfl, (Same.new ne) _ _ upd_same⟩
    | true =>
      refine ⟨_, rfl, iteF ?_⟩
      refine ⟨_, rfl, by decide, fun q nq => ?_⟩
      have s2 : Same H (upd H1 q (.tup [])) := s1.trans (Same.new nq)
      refine ⟨v, d, q, [], 1, false, rfl, rfl, r.keep s2, hb, upd_same, by decide, fun u H3 s3 hu => ?_⟩
      have s03 := s2.trans s3
      refine ⟨_, rfl, ?_⟩
      cases hf : firstB 11 d [] false with
      | some wp =>
        rw [hf] at hu
        have due : dueB d = some (some wp) := by unfold dueB; rw [hb, if_neg (by decide), hf]
        obtain ⟨pp, rfl, hpp⟩ := hu
        refine ⟨rfl, _, rfl, ite2 (fun _ => ?_) (fun z => absurd rfl z)⟩
        exact ⟨_, rfl, mko_err TE fun e ne => kx _ due e (.ref pp) _ (s03.trans (Same.new ne)) upd_same ⟨pp, rfl, (Same.new ne) _ _ hpp⟩⟩
      | none =>
        rw [hf] at hu
        obtain rfl : u = .non := hu
        have hg := first_good 11 d [] false (by decide) hb hf
        refine ⟨rfl, _, rfl, iteF ?_⟩
        refine ⟨_, rfl, v, d, rfl, r.keep s03, hg, fun H4 s4 => ⟨_, _, rfl, rfl, _, rfl, ?_⟩⟩
        by_cases c : countB 11 d > 6000
        · have due : dueB d = some none := by unfold dueB; rw [hb, if_neg (by decide), hf]; exact if_pos c
          refine ite2 (fun _ => ?_) (fun z => absurd (decide_eq_true (show (6000 : Int) < countB 11 d by omega)) z)
          exact mko_err TE fun e ne => kx _ due e .non _ ((s03.trans s4).trans (Same.new ne)) upd_same rfl
        · have due : dueB d = none := by unfold dueB; rw [hb, if_neg (by decide), hf]; exact if_neg c
          refine ite2 (fun z => absurd (of_decide_eq_true z) (by omega)) fun _ => ?_
          exact k due H4 (s03.trans s4)
end
end Oh
namespace Oh
open PySem PySem.Spec PyProof.Rows L2
/-- a routine over the block at B -/
def RoutH (H : Hp) (hR r B : Addr) : Prop := ∃ (dx : Addr) (fs : List (Str × V)), H r = some (.ins hR dx fs) ∧ fs.lookup ("block" : Str) = some (V.ref B)
def spInit (hR hBR : Addr) : Sp := fun vs H Q E => ∃ r B dx, vs = [.ref r, .ref B] ∧ r ≠ B ∧ H r = some (.ins hR dx []) ∧ ((∃ S, HomeB H B S ∧ ∀ H', (∀ b o, H b = some o → b ≠ r → H' b = some o) → RoutH H' hR r B → Q .non H') ∨
  ∃ xs, H B = some (.lst xs) ∧ ∀ d q H', Same H H' → H' d = some (.xd [("what", .ref q)]) → H' q = some (.tup []) → E (.ref hBR) (some d) H')
abbrev nIn : List Str := ["self", "block", "rows", "row", "name", "port"]
theorem scRInit : FnScope nIn ["self", "block"] (defScope sRInit) := ⟨rfl, rfl, rfl, by decide +kernel, rfl, by decide +kernel, by decide +kernel⟩
theorem boot_sorted : bootBuiltins "sorted" = some (.builtin "sorted") := by decide +kernel
/-- a dict comprehension, its keys tuples, over a walk -/
theorem dc_it {J : It} {n : Nat} {G : Hp → Prop} {Y : Nat → Hp → V → Hp → Prop} (w : Walk J n G Y) {g : TG} {tt : TT} {tk tv : TE} {vs : List Nat} {σ : L2.St} {H1 : Hp} {D : Addr} {Qd : Hp → Prop} (Pv : Nat → Hp → Prop) (h0 : Pv 0 (upd H1 D (.dT []))) (hG : ∀ i H, i ≤ n → Pv i H → G H)
    (hs : ∀ i x H H', i < n → Pv i H → Y i H x H' → g x (wipe σ vs) H' fun σ2 H2 => wipe σ2 vs = wipe σ vs ∧ tt σ2 H2 fun b H3 =>
      if b = true then tk σ2 H3 fun y H4 => tv σ2 H4 fun z H5 => ∃ (c : Addr) (kvs : List (List L2.Key × V)) (k : List L2.Key), y = .ref c ∧ H5 c = some (.tup (k.map kV)) ∧ H5 D = some (.dT kvs) ∧ kvs.length < sizeLine ∧ Pv (i + 1) (upd H5 D (.dT (putK kvs k z))) else Pv (i + 1) H3) (hd : ∀ H, Pv n H → Qd H) :
    ∃ W : Nat → Nat → Hp → Prop, (∃ m, W 0 m (upd H1 D (.dT []))) ∧ ∀ i m H, W i m H →
      (J.stop i H ∧ Qd H) ∨ (J.go i H ∧ ∃ Nx : Hp → Prop, (∀ H', Nx H' → ∃ m', m' < m ∧ W (i + 1) m' H') ∧ ∀ x H', J.yld i H x H' → g x (wipe σ vs) H' fun σ2 H2 => wipe σ2 vs = wipe σ vs ∧ tt σ2 H2 fun b H3 =>
        if b = true then tk σ2 H3 fun y H4 => tv σ2 H4 fun z H5 => ∃ (c : Addr) (kvs : List (List L2.Key × V)) (k : List L2.Key), y = .ref c ∧ H5 c = some (.tup (k.map kV)) ∧ H5 D = some (.dT kvs) ∧ kvs.length < sizeLine ∧ Nx (upd H5 D (.dT (putK kvs k z))) else Nx H3) := by
  refine ⟨fun i m H => m = n - i ∧ i ≤ n ∧ Pv i H, ⟨n, by simp, Nat.zero_le _, h0⟩, ?_⟩
  rintro i m H ⟨rfl, hi, p⟩
  have q := hG i H hi p
  by_cases hlt : i < n
  · exact .inr ⟨w.goes i H hlt q, Pv (i + 1), fun H' p' => ⟨n - (i + 1), by omega, rfl, hlt, p'⟩, fun x H' y => hs i x H H' hlt p (w.yields i H x H' hlt q y)⟩
  · have e : i = n := by omega
    subst e
    exact .inl ⟨w.stops H q, hd H p⟩
theorem ixT_at {K : PySem.W.Frag} {σ : L2.St} {H : Hp} {Q : VK} {R : Addr} {xs : List V} {x : V} {j : Int} {i : Nat} (h3 : σ[i]? = some (some (.ref R))) (hR : H R = some (.tup xs)) (e : atI xs j = some x) (q : Q x H) : tOp (rIxT K) (tVar i) (tC (.int j)) σ H Q :=
  ⟨_, h3, R, _, _, _, rfl, rfl, SqT.of hR, e, q⟩
/-- the dict of the one row -/
theorem dc_one {K : PySem.W.Frag} {s0 s1 s3 s4 s5 : Option V} {H : Hp} {Q : VK} {L R T S : Addr} {j : Int} {x : V} (la : LaidAt H L R T S) (e : atI [.ref T, .ref S, .non] j = some x) (k : ∀ D H', H D = none → Same H H' → Q (.ref D) H') :
    tDcT (iList K (tVar 2)) (gName 3) tYes (tOp (rIxT K) (tVar 3) (tC (.int 0))) (tOp (rIxT K) (tVar 3) (tC (.int j))) [3] [s0, s1, some (.ref L), s3, s4, s5] H Q := by
  refine ⟨_, rfl, L, rfl, ⟨_, SqL.of la.1⟩, fun D nD => dc_it (walk_list (xs := [V.ref R])) (fun i H' => Same H H' ∧ (i = 0 → H' D = some (.dT []))) ⟨Same.new nD, fun _ => upd_same⟩ (fun i H' _ q => SqL.of (q.1 _ _ la.1)) ?_ ?_⟩
  · rintro i y H1 H2 hi ⟨sm, hD⟩ ⟨e2, ey⟩
    subst e2
    obtain rfl : i = 0 := by have : i < 1 := hi; omega
    obtain rfl := Option.some.inj ey
    refine ⟨rfl, ?_⟩
    refine ixT_at (i := 3) rfl (sm _ _ la.2.1) rfl (ixT_at (i := 3) rfl (sm _ _ la.2.1) e ⟨T, [], [.inl 0], rfl, sm _ _ la.2.2, hD rfl, (by show 0 < sizeLine; decide), fun b o eb => ?_, fun z => absurd z (by decide)⟩)
    rw [upd_ne (ne_of_none eb nD)]
    exact sm b o eb
  · rintro H' ⟨sm, _⟩
    exact k D H' nD sm
/-- a set comprehension that adds nothing, over one row -/
theorem sc_one {K : PySem.W.Frag} {w : World} {s0 s1 s3 s4 s5 : Option V} {H : Hp} {Q : VK} {L R T S : Addr} {c : Nat} (hc : c = 4 ∨ c = 5) (la : LaidAt H L R T S) (hS : HomeS H S) (k : ∀ D H', H D = none → Same H H' → H' D = some (SetO w D (fun _ => false) 0) → Q (.ref D) H') :
    tSc2 (fun D => SetO w D (fun _ => false) 0) (fun _ _ _ _ => False) (iList K (tVar 2)) (gName 3) tYes (iList K (tCall spBlocksOf [] E0 (tCons (tOp (rIxT K) (tVar 3) (tC (.int 1))) tNil))) (gName c) tYes (fun _ _ _ => False) [3, c] [c] [s0, s1, some (.ref L), s3, s4, s5] H Q := by
  refine ⟨_, rfl, L, rfl, ⟨_, SqL.of la.1⟩, fun D nD => ⟨fun i m H' => m = 1 - i ∧ i ≤ 1 ∧ Same H H' ∧ H' D = some (SetO w D (fun _ => false) 0), ⟨1, rfl, Nat.zero_le _, Same.new nD, upd_same⟩, ?_⟩⟩
  rintro i m H1 ⟨rfl, hi, sm, hD⟩
  by_cases e : i = 1
  · subst e
    exact .inl ⟨⟨_, SqL.of (sm _ _ la.1), Nat.le_refl _⟩, k D H1 nD sm hD⟩
  · obtain rfl : i = 0 := by omega
    refine .inr ⟨⟨_, V.ref R, SqL.of (sm _ _ la.1), rfl⟩, fun H' => Same H H' ∧ H' D = some (SetO w D (fun _ => false) 0), fun H' q => ⟨0, by decide, rfl, Nat.le_refl _, q⟩, fun x H' y => ?_⟩
    obtain ⟨e2, ex⟩ := y
    subst e2
    have ex : some (V.ref R) = some x := ex _ (SqL.of (sm _ _ la.1))
    obtain rfl := Option.some.inj ex
    rcases hc with rfl | rfl
    all_goals
      refine ⟨rfl, ?_⟩
      refine ixT_at (i := 3) rfl (sm _ _ la.2.1) rfl ⟨S, rfl, sm _ _ hS, fun E H4 h4 nE eE => ⟨E, rfl, ⟨_, SqL.of eE⟩, ?_⟩⟩
      exact ⟨fun j _ Hj => j = 0 ∧ Hj = H4, ⟨0, rfl, rfl⟩, fun j kk Hj ⟨ej, eH⟩ => .inl ⟨⟨[], by rw [eH]; exact SqL.of eE, Nat.zero_le _⟩, by rw [eH]; exact ⟨sm.trans h4, h4 _ _ hD⟩⟩⟩
/-- what the class of routines has -/
structure RCls (K : PySem.W.Frag) (hR : Addr) : Prop where
  cl : Cls K hR
  n1 : NoAttr K hR "block"
  n2 : NoAttr K hR "_statements"
  n3 : NoAttr K hR "_followers"
  n4 : NoAttr K hR "_names"
  n5 : NoAttr K hR "_ports"
/-- the new routine while its attributes are set -/
structure Pk (H0 : Hp) (hR r B L R T S : Addr) (n : Nat) (Hn : Hp) : Prop where
  ex : ∃ (dx : Addr) (fs : List (Str × V)), Hn r = some (.ins hR dx fs) ∧ fs.length ≤ n ∧ fs.lookup ("block" : Str) = some (V.ref B)
  la : LaidAt Hn L R T S
  ho : HomeS Hn S
  sb : ∀ b o, H0 b = some o → b ≠ r → Hn b = some o
theorem Pk.same {H0 : Hp} {hR r B L R T S : Addr} {n : Nat} {Hn Hm : Hp} (p : Pk H0 hR r B L R T S n Hn) (s : Same Hn Hm) : Pk H0 hR r B L R T S n Hm := by
  obtain ⟨dx, fs, h1, h2, h3⟩ := p.ex
  exact ⟨⟨dx, fs, s _ _ h1, h2, h3⟩, ⟨s _ _ p.la.1, s _ _ p.la.2.1, s _ _ p.la.2.2⟩, s _ _ p.ho, fun b o e nb => s _ _ (p.sb b o e nb)⟩
theorem Pk.put {H0 : Hp} {hR r B L R T S dx : Addr} {fs : List (Str × V)} {n : Nat} {Hn : Hp} {f : Str} {y : V} (p : Pk H0 hR r B L R T S n Hn) (hf : f ≠ "block") (h1 : Hn r = some (.ins hR dx fs)) (h2 : fs.length ≤ n) (h3 : fs.lookup ("block" : Str) = some (V.ref B)) :
    Pk H0 hR r B L R T S (n + 1) (upd Hn r (.ins hR dx (putF f y fs))) := by
  have nL : L ≠ r := fun z => by subst z; cases h1.symm.trans p.la.1
  have nR : R ≠ r := fun z => by subst z; cases h1.symm.trans p.la.2.1
  have nT : T ≠ r := fun z => by subst z; cases h1.symm.trans p.la.2.2
  have nS : S ≠ r := fun z => by subst z; cases h1.symm.trans (show Hn S = some (.tup [.str "home"]) from p.ho)
  refine ⟨⟨dx, _, upd_same, ?_, ?_⟩, ⟨by rw [upd_ne nL]; exact p.la.1, by rw [upd_ne nR]; exact p.la.2.1, by rw [upd_ne nT]; exact p.la.2.2⟩, by show upd _ _ _ S = _; rw [upd_ne nS]; exact p.ho, fun b o e nb => by rw [upd_ne nb]; exact p.sb b o e nb⟩
  · have := length_putF f y fs
    omega
  · rw [lookup_putF, if_neg (fun z => hf z.symm)]
    exact h3
section
variable {P : Program} {w : World} {K : PySem.W.Frag} {mg : Str → Option Value} {base : Heap} {hR hBR : Addr}
theorem ok_rinit {f fC fL fN fP : Addr} {fd fdC fdL fdN fdP : FuncData} (F : Fun K "__init__" "Routine.__init__" sRInit f fd) (T : RCls K hR) (mso : mg "sorted" = none)
    (GC : FnOk P w K mg base (L2.CX P w) 6 fC fdC ["block"] (spCheck hBR)) (kC : PySem.W.keepIn K (.ref fC) = true) (bC : Binds K fdC ["block"] []) (mC : mg "_check" = some (.ref fC))
    (GL : FnOk P w K mg base CX0 2 fL fdL ["block", "path", "behind", "outside"] spLaid) (kL : PySem.W.keepIn K (.ref fL) = true) (bL : Binds K fdL ["block", "path", "behind", "outside"] []) (mL : mg "laid_out" = some (.ref fL))
    (GN : FnOk P w K mg base CX0 1 fN fdN ["statement"] spBlocksOf) (kN : PySem.W.keepIn K (.ref fN) = true) (bN : Binds K fdN ["statement"] []) (mN : mg "names_of" = some (.ref fN))
    (GP : FnOk P w K mg base CX0 1 fP fdP ["statement"] spBlocksOf) (kP : PySem.W.keepIn K (.ref fP) = true) (bP : Binds K fdP ["statement"] []) (mP : mg "ports_of" = some (.ref fP)) :
    FnOk P w K mg base (L2.CX P w) 7 f fd ["self", "block"] (spInit hR hBR) := by
  refine F.okX scRInit (fun vs H Q E h => ?_) (fun cdv A outer s H vs Q E hr h => ?_)
  · obtain ⟨r, B, dx, rfl, _⟩ := h
    rfl
  · obtain ⟨r, B, dx, rfl, hrB, hr0, h⟩ := h
    have hr1 : Room 1 _ := hr.mono (by decide)
    have hr2 : Room 2 _ := hr.mono (by decide)
    have hu := hu_of hr1
    refine ⟨_, pss_cons (ps_expr (pe_call GC hr (by rfl) mC kC bC .nil (passes_call (takes_of rfl rfl rfl rfl) (fun _ _ _ _ h => h)) (pa_cons (pv 1) pa_nil)))
      (pss_cons (ps_fld (pv 0) (pv 1) rfl)
      (pss_cons (ps_set (i := 2) scRInit.nd rfl (Or.inl rfl) (pe_call GL hr2 (by rfl) mL kL bL .nil pass0 (pa_cons (pv 1) (pa_cons (pe_tup pa_nil) (pa_cons pe_non (pa_cons pe_non pa_nil))))))
      (pss_cons (ps_fld (pv 0) (pe_dcT (own := [("row", 3)]) (g := gName 3) (tt := tYes) (tk := tOp (rIxT K) (tVar 3) (tC (.int 0))) (tv := tOp (rIxT K) (tVar 3) (tC (.int 1))) (Nat.lt_of_succ_lt hu) rfl scRInit.nd (pi_list (pv 2)) (blkOk_by (N := nIn) (sc := defScope sRInit) (by decide +kernel)) (fun _ _ _ _ _ => pg_name (i := 3) scRInit.nd rfl (Or.inl rfl)) (fun _ _ _ _ _ => pts_nil)
          (fun _ _ _ _ _ => pe_ix ix_tup (pv 3) pe_int (fun _ _ => rfl)) (fun _ _ _ _ _ => pe_ix ix_tup (pv 3) pe_int (fun _ _ => rfl))) rfl)
      (pss_cons (ps_fld (pv 0) (pe_dcT (own := [("row", 3)]) (g := gName 3) (tt := tYes) (tk := tOp (rIxT K) (tVar 3) (tC (.int 0))) (tv := tOp (rIxT K) (tVar 3) (tC (.int 2))) (Nat.lt_of_succ_lt hu) rfl scRInit.nd (pi_list (pv 2)) (blkOk_by (N := nIn) (sc := defScope sRInit) (by decide +kernel)) (fun _ _ _ _ _ => pg_name (i := 3) scRInit.nd rfl (Or.inl rfl)) (fun _ _ _ _ _ => pts_nil)
          (fun _ _ _ _ _ => pe_ix ix_tup (pv 3) pe_int (fun _ _ => rfl)) (fun _ _ _ _ _ => pe_ix ix_tup (pv 3) pe_int (fun _ _ => rfl))) rfl)
      (pss_cons (ps_fld (pv 0) (pe_callB (cr_sortedSet rfl) (by rfl) mso boot_sorted (pa_cons
          (pe_sc2 (own := [("row", 3), ("name", 4)]) (vs1 := [4]) (g := gName 3) (tt := tYes) (g1 := gName 4) (tt1 := tYes) (wi1 := iList K (tCall spBlocksOf [] E0 (tCons (tOp (rIxT K) (tVar 3) (tC (.int 1))) tNil))) (te := fun _ _ _ => False) (kind0 P w) rfl scRInit.nd (pi_list (pv 2))
            (blkOk_by (N := nIn) (sc := defScope sRInit) (by decide +kernel)) (by decide +kernel) (fun _ _ _ _ _ => pg_name (i := 3) scRInit.nd rfl (Or.inl rfl)) (fun _ _ _ _ _ => pts_nil)
            (fun _ _ _ _ _ => pi_list (by exact (pe_call GN hr1 (by rfl) mN kN bN .nil pass0 (pa_cons (pe_ix ix_tup (pv 3) pe_int (fun _ _ => rfl)) pa_nil)))) (fun _ _ _ _ _ => pg_name (i := 4) scRInit.nd rfl (Or.inl rfl)) (fun _ _ _ _ _ => pts_nil) (fun _ _ _ _ _ => pe_never)) pa_nil)) rfl)
      (pss_one (ps_fld (pv 0) (pe_callB (cr_sortedSet rfl) (by rfl) mso boot_sorted (pa_cons
          (pe_sc2 (own := [("row", 3), ("port", 5)]) (vs1 := [5]) (g := gName 3) (tt := tYes) (g1 := gName 5) (tt1 := tYes) (wi1 := iList K (tCall spBlocksOf [] E0 (tCons (tOp (rIxT K) (tVar 3) (tC (.int 1))) tNil))) (te := fun _ _ _ => False) (kind0 P w) rfl scRInit.nd (pi_list (pv 2))
            (blkOk_by (N := nIn) (sc := defScope sRInit) (by decide +kernel)) (by decide +kernel) (fun _ _ _ _ _ => pg_name (i := 3) scRInit.nd rfl (Or.inl rfl)) (fun _ _ _ _ _ => pts_nil)
            (fun _ _ _ _ _ => pi_list (by exact (pe_call GP hr1 (by rfl) mP kP bP .nil pass0 (pa_cons (pe_ix ix_tup (pv 3) pe_int (fun _ _ => rfl)) pa_nil)))) (fun _ _ _ _ _ => pg_name (i := 5) scRInit.nd rfl (Or.inl rfl)) (fun _ _ _ _ _ => pts_nil) (fun _ _ _ _ _ => pe_never)) pa_nil)) rfl))))))), ?_⟩
    rcases h with ⟨S, hB, k⟩ | ⟨xs, hB, k⟩
    · refine ⟨_, rfl, B, rfl, .inl ⟨S, hB, fun H1 s1 => ?_⟩⟩
      have h1 := s1 _ _ hr0
      have hB1 := hB.keep s1
      have nS : S ≠ r := fun z => by subst z; cases hr0.symm.trans (show H S = some (.tup [.str "home"]) from hB.2)
      refine ⟨_, rfl, _, rfl, r, hR, dx, [], rfl, h1, T.cl, T.n1, by decide, ?_⟩
      have hB2 : HomeB (upd H1 r (.ins hR dx (putF "block" (V.ref B) []))) B S := ⟨by rw [upd_ne (Ne.symm hrB)]; exact hB1.1, by show upd _ _ _ S = _; rw [upd_ne nS]; exact hB1.2⟩
      refine ⟨_, rfl, by decide, fun p np => ⟨B, S, p, rfl, hB2.keep (Same.new np), upd_same, fun L R T0 H3 s3 la nL nR nT => ?_⟩⟩
      have pk : Pk H hR r B L R T0 S 1 H3 := by
        refine Pk.same (Hn := H3) ⟨⟨dx, _, s3 _ _ ((Same.new np) _ _ upd_same), (by show 1 ≤ 1; decide), rfl⟩, la, s3 _ _ ((Same.new np) _ _ hB2.2), fun b o e nb => s3 _ _ ((Same.new np) _ _ (by rw [upd_ne nb]; exact s1 _ _ e))⟩ (Same.refl H3)
      dsimp only [tSeq, gName, sFld]
      refine dc_one (j := 1) (x := .ref S) pk.la rfl ?_
      intro D4 H4 n4 s4
      obtain ⟨dx9, fs9, a1, a2, a3⟩ := (pk.same s4).ex
      refine ⟨_, rfl, r, hR, dx9, fs9, rfl, a1, T.cl, T.n2, by omega, ?_⟩
      have p5 := (pk.same s4).put (f := "_statements") (y := .ref D4) (by decide) a1 a2 a3
      refine dc_one (j := 2) (x := .non) p5.la rfl ?_
      intro D6 H6 n6 s6
      obtain ⟨dx9, fs9, a1, a2, a3⟩ := (p5.same s6).ex
      refine ⟨_, rfl, r, hR, dx9, fs9, rfl, a1, T.cl, T.n3, by omega, ?_⟩
      have p7 := (p5.same s6).put (f := "_followers") (y := .ref D6) (by decide) a1 a2 a3
      dsimp only [tSeq, gName, sFld, tCB, tCons, tNil]
      refine sc_one (c := 4) (.inl rfl) p7.la p7.ho ?_
      intro D8 H8 n8 s8 e8
      refine ⟨D8, _, 0, rfl, e8, by decide, fun ns q _ _ hl nq => ?_⟩
      obtain ⟨dx9, fs9, a1, a2, a3⟩ := ((p7.same s8).same (Same.new (o := .lst (ns.map V.int)) nq)).ex
      refine ⟨_, rfl, r, hR, dx9, fs9, rfl, a1, T.cl, T.n4, by omega, ?_⟩
      have p9 := ((p7.same s8).same (Same.new nq)).put (f := "_names") (y := .ref q) (by decide) a1 a2 a3
      refine sc_one (c := 5) (.inr rfl) p9.la p9.ho ?_
      intro D8 H8 n8 s8 e8
      refine ⟨D8, _, 0, rfl, e8, by decide, fun ns q _ _ hl nq => ?_⟩
      obtain ⟨dx9, fs9, a1, a2, a3⟩ := ((p9.same s8).same (Same.new (o := .lst (ns.map V.int)) nq)).ex
      refine ⟨_, rfl, r, hR, dx9, fs9, rfl, a1, T.cl, T.n5, by omega, ?_⟩
      have p10 := ((p9.same s8).same (Same.new nq)).put (f := "_ports") (y := .ref q) (by decide) a1 a2 a3
      obtain ⟨dx', fs', x1, x2, x3⟩ := p10.ex
      exact k _ p10.sb ⟨dx', fs', x1, x3⟩
    · exact ⟨_, rfl, B, rfl, .inr ⟨xs, hB, k⟩⟩
end
end Oh
namespace Oh
open PySem PySem.Spec PyProof.Rows L2 PpSet
abbrev keyP (w : List Nat) : List L2.Key := w.map fun (n : Nat) => (.inl (n : Int) : L2.Key)
theorem pathV_key (w : List Nat) : (keyP w).map kV = pathV w := by
  show List.map _ (List.map _ _) = List.map _ _
  rw [List.map_map]
  rfl
theorem keyP_inj : ∀ {a b : List Nat}, keyP a = keyP b → a = b
  | [], [], _ => rfl
  | [], _ :: _, h => by cases h
  | _ :: _, [], h => by cases h
  | x :: a, y :: b, h => by
    obtain ⟨h1, h2⟩ := List.cons.inj (show (.inl (x : Int) : L2.Key) :: keyP a = .inl (y : Int) :: keyP b from h)
    have e : (x : Int) = y := Sum.inl.inj h1
    rw [keyP_inj h2, show x = y by omega]
/-- a table: each path's value -/
def TabAt (Z : Hp → V → LRow → Prop) (H : Hp) (kvs : List (List L2.Key × V)) (rows : List LRow) : Prop := Paired (fun kv r => kv.1 = keyP r.1 ∧ Z H kv.2 r) kvs rows
theorem TabAt.keep {Z : Hp → V → LRow → Prop} (zk : ∀ {H H' : Hp} {v : V} {r : LRow}, Same H H' → Z H v r → Z H' v r) {H H' : Hp} (s : Same H H') : ∀ {kvs : List (List L2.Key × V)} {rows : List LRow}, TabAt Z H kvs rows → TabAt Z H' kvs rows
  | _, _, .nil => .nil
  | _, _, .cons h t => .cons ⟨h.1, zk s h.2⟩ (TabAt.keep (Z := Z) (fun s z => zk s z) s t)
theorem TabAt.append {Z : Hp → V → LRow → Prop} {H : Hp} : ∀ {a b : List (List L2.Key × V)} {rs qs : List LRow}, TabAt Z H a rs → TabAt Z H b qs → TabAt Z H (a ++ b) (rs ++ qs)
  | _, _, _, _, .nil, h => h
  | _, _, _, _, .cons h t, z => .cons h (TabAt.append t z)
theorem TabAt.none {Z : Hp → V → LRow → Prop} {H : Hp} {w : List Nat} : ∀ {kvs : List (List L2.Key × V)} {rows : List LRow}, TabAt Z H kvs rows → (∀ r ∈ rows, r.1 ≠ w) → valV kvs (keyP w) = Option.none
  | _, _, .nil, _ => rfl
  | _, _, .cons (a := kv) (b := r) h t, ne => by
    have n1 : ¬ kv.1 = keyP w := fun e => ne r (List.mem_cons_self ..) (keyP_inj (h.1.symm.trans e))
    have z := TabAt.none t fun q hq => ne q (List.mem_cons_of_mem _ hq)
    unfold valV at z ⊢
    rw [List.find?_cons_of_neg (by simpa using n1)]
    exact z
theorem RowsAt.get {K : PySem.W.Frag} {H : Hp} : ∀ {vs : List V} {rs : List LRow}, RowsAt K H vs rs → ∀ {i : Nat} {r : LRow}, rs[i]? = some r → ∃ v, vs[i]? = some v ∧ RowAt K H v r
  | _, _, .cons h _, 0, _, e => ⟨_, rfl, by cases e; exact h⟩
  | _ :: vs, _ :: rs, .cons _ t, i + 1, _, e => RowsAt.get (vs := vs) (rs := rs) t (i := i) e
theorem tab_it {K : PySem.W.Frag} {Z : Hp → V → LRow → Prop} (zk : ∀ {H H' : Hp} {v : V} {r : LRow}, Same H H' → Z H v r → Z H' v r) {s0 s1 s3 s4 s5 : Option V} {H : Hp} {Q : VK} {L : Addr} {ys : List V} {rows : List LRow} {j : Int} (sel : V → V → V) (hj : ∀ a vS vF, atI [a, vS, vF] j = some (sel vS vF)) (hz : ∀ {H vS vF} {r : LRow}, Rp K H vS r.2.1 → PathOr H vF r.2.2 → Z H (sel vS vF) r)
    (hL : H L = some (.lst ys)) (ra : RowsAt K H ys rows) (nd : (rows.map (·.1)).Nodup) (few : rows.length ≤ 10000) (k : ∀ D H' kvs, H D = none → Same H H' → H' D = some (.dT kvs) → TabAt Z H' kvs rows → Q (.ref D) H') :
    tDcT (iList K (tVar 2)) (gName 3) tYes (tOp (rIxT K) (tVar 3) (tC (.int 0))) (tOp (rIxT K) (tVar 3) (tC (.int j))) [3] [s0, s1, some (.ref L), s3, s4, s5] H Q := by
  have hl := ra.len
  refine ⟨_, rfl, L, rfl, ⟨_, SqL.of hL⟩, fun D nD => dc_it (walk_list (xs := ys)) (fun i H' => Same H H' ∧ ∃ kvs, H' D = some (.dT kvs) ∧ TabAt Z H kvs (rows.take i)) ⟨Same.new nD, [], upd_same, .nil⟩ (fun i H' _ q => SqL.of (q.1 _ _ hL)) ?_ ?_⟩
  · rintro i y H1 H2 hi ⟨sm, kvs, hD, tab⟩ ⟨e2, ey⟩
    subst e2
    have li : i < rows.length := by rw [← hl]; exact hi
    obtain ⟨vi, ev, R, T, vS, vF, rfl, hR, hT, rS, rF⟩ := ra.get (List.getElem?_eq_getElem li)
    obtain rfl := Option.some.inj (ev.symm.trans ey)
    refine ⟨rfl, ?_⟩
    have fresh : valV kvs (keyP rows[i].1) = none := TabAt.none tab fun r hr e => by
      obtain ⟨m, hm, er⟩ := List.mem_take_iff_getElem.mp hr
      have lm : m < rows.length := by omega
      have := (List.pairwise_iff_getElem.mp nd) m i (by rw [List.length_map]; exact lm) (by rw [List.length_map]; exact li) (by omega)
      rw [List.getElem_map, List.getElem_map] at this
      exact this (by rw [er]; exact e)
    have lk : kvs.length = i := by
      have := Paired.length tab
      rw [List.length_take] at this
      omega
    refine ixT_at (i := 3) rfl (sm _ _ hR) rfl (ixT_at (i := 3) rfl (sm _ _ hR) (hj _ _ _) ⟨T, kvs, keyP rows[i].1, rfl, by rw [pathV_key]; exact sm _ _ hT, hD, by rw [lk]; exact Nat.lt_of_lt_of_le (show i < 10001 by omega) (by decide), fun b o eb => ?_, _, upd_same, ?_⟩)
    · rw [upd_ne (ne_of_none eb nD)]
      exact sm b o eb
    · rw [putK_new _ fresh, show rows.take (i + 1) = rows.take i ++ [rows[i]] by rw [List.take_add_one, List.getElem?_eq_getElem li]; rfl]
      exact tab.append (.cons ⟨rfl, hz rS rF⟩ .nil)
  · rintro H' ⟨sm, kvs, hD, tab⟩
    rw [show rows.take ys.length = rows by rw [List.take_of_length_le]; omega] at tab
    exact k D H' kvs nD sm hD (TabAt.keep (Z := Z) (fun s z => zk s z) sm tab)
end Oh
namespace Oh
open PySem PySem.Spec PyProof.Rows L2 PpSet
/-! No two rows have one path. -/
theorem sub_block {rec : DT → List Nat → OPath → OPath → List LRow} (h : ∀ d p a b, ∀ r ∈ rec d p a b, ∃ i t, r.1 = p ++ i :: t) {here : List Nat} {fol out : OPath} {rp : Bool} : ∀ (bs : List DT) (j : Nat), ∀ r ∈ layBlocks rec here fol out rp bs j, ∃ j' i t, j ≤ j' ∧ r.1 = here ++ j' :: i :: t
  | [], _, r, hr => by cases hr
  | b :: bs, j, r, hr => by
    unfold layBlocks at hr
    rcases List.mem_append.mp hr with hr | hr
    · have : ∃ a c, r ∈ rec b (here ++ [j]) a c := by
        cases rp
        · rw [if_neg (by decide)] at hr; exact ⟨_, _, hr⟩
        · rw [if_pos rfl] at hr; exact ⟨_, _, hr⟩
      obtain ⟨a, c, hm⟩ := this
      obtain ⟨i, t, e⟩ := h _ _ _ _ r hm
      exact ⟨j, i, t, Nat.le_refl _, by rw [e, List.append_assoc]; rfl⟩
    · obtain ⟨j', i, t, le, e⟩ := sub_block h bs (j + 1) r hr
      exact ⟨j', i, t, by omega, e⟩
theorem sub_items {rec : DT → List Nat → OPath → OPath → List LRow} (h : ∀ d p a b, ∀ r ∈ rec d p a b, ∃ i t, r.1 = p ++ i :: t) {m : Nat} {path : List Nat} {behind out : OPath} : ∀ (ds : List DT) (i : Nat), ∀ r ∈ layItems rec m path behind out ds i, ∃ i' t, i ≤ i' ∧ r.1 = path ++ i' :: t
  | [], _, r, hr => by cases hr
  | d :: ds, i, r, hr => by
    unfold layItems at hr
    rcases List.mem_cons.mp hr with rfl | hr
    · exact ⟨i, [], Nat.le_refl _, rfl⟩
    rcases List.mem_append.mp hr with hr | hr
    · obtain ⟨j', i', t, _, e⟩ := sub_block h _ _ r hr
      exact ⟨i, j' :: i' :: t, Nat.le_refl _, by rw [e, List.append_assoc]; rfl⟩
    · obtain ⟨i', t, le, e⟩ := sub_items h ds (i + 1) r hr
      exact ⟨i', t, by omega, e⟩
theorem lay_sub : ∀ (f : Nat) (d : DT) (p : List Nat) (a b : OPath), ∀ r ∈ layR f d p a b, ∃ i t, r.1 = p ++ i :: t
  | 0, _, _, _, _, r, hr => by cases hr
  | f + 1, d, p, a, b, r, hr => by
    obtain ⟨i, t, _, e⟩ := sub_items (lay_sub f) _ _ r hr
    exact ⟨i, t, e⟩
abbrev NoTwo (l : List LRow) : Prop := l.Pairwise fun a b => a.1 ≠ b.1
theorem two_block {rec : DT → List Nat → OPath → OPath → List LRow} (h : ∀ d p a b, ∀ r ∈ rec d p a b, ∃ i t, r.1 = p ++ i :: t) (g : ∀ d p a b, NoTwo (rec d p a b)) {here : List Nat} {fol out : OPath} {rp : Bool} : ∀ (bs : List DT) (j : Nat), NoTwo (layBlocks rec here fol out rp bs j)
  | [], _ => .nil
  | b :: bs, j => by
    unfold layBlocks
    have : ∃ a c, (if rp = true then rec b (here ++ [j]) (some (here ++ [j] ++ [0])) fol else rec b (here ++ [j]) fol out) = rec b (here ++ [j]) a c := by
      cases rp
      · exact ⟨_, _, if_neg (by decide)⟩
      · exact ⟨_, _, if_pos rfl⟩
    obtain ⟨a, c, e⟩ := this
    rw [e]
    refine List.pairwise_append.mpr ⟨g _ _ _ _, two_block h g bs (j + 1), fun r hr q hq z => ?_⟩
    obtain ⟨i, t, e1⟩ := h _ _ _ _ r hr
    obtain ⟨j', i', t', le, e2⟩ := sub_block h bs (j + 1) q hq
    rw [e1, e2, List.append_assoc] at z
    have z := List.append_cancel_left z
    have := (List.cons.inj (show j :: i :: t = j' :: i' :: t' from z)).1
    omega
theorem two_items {rec : DT → List Nat → OPath → OPath → List LRow} (h : ∀ d p a b, ∀ r ∈ rec d p a b, ∃ i t, r.1 = p ++ i :: t) (g : ∀ d p a b, NoTwo (rec d p a b)) {m : Nat} {path : List Nat} {behind out : OPath} : ∀ (ds : List DT) (i : Nat), NoTwo (layItems rec m path behind out ds i)
  | [], _ => .nil
  | d :: ds, i => by
    unfold layItems
    refine List.pairwise_cons.mpr ⟨fun q hq z => ?_, List.pairwise_append.mpr ⟨two_block h g _ _, two_items h g ds (i + 1), fun r hr q hq z => ?_⟩⟩
    · rcases List.mem_append.mp hq with hq | hq
      · obtain ⟨j', i', t, _, e⟩ := sub_block h _ _ q hq
        have z : path ++ [i] = q.1 := z
        rw [e] at z
        have := congrArg List.length z
        simp at this
      · obtain ⟨i', t, le, e⟩ := sub_items h ds (i + 1) q hq
        have z : path ++ [i] = q.1 := z
        rw [e] at z
        have := (List.cons.inj (List.append_cancel_left z)).1
        omega
    · obtain ⟨j', i', t, _, e⟩ := sub_block h _ _ r hr
      obtain ⟨i2, t2, le, e2⟩ := sub_items h ds (i + 1) q hq
      rw [e, e2, List.append_assoc] at z
      have z := List.append_cancel_left z
      have := (List.cons.inj (show i :: (j' :: i' :: t) = i2 :: t2 from z)).1
      omega
theorem lay_two : ∀ (f : Nat) (d : DT) (p : List Nat) (a b : OPath), NoTwo (layR f d p a b)
  | 0, _, _, _, _ => .nil
  | f + 1, d, p, a, b => two_items (lay_sub f) (lay_two f) _ _
theorem lay_nodup (f : Nat) (d : DT) (p : List Nat) (a b : OPath) : ((layR f d p a b).map (·.1)).Nodup := List.pairwise_map.mpr (lay_two f d p a b)
end Oh
namespace Oh
open PySem PySem.Spec PyProof.Rows L2 PpSet
/-! The texts of all rows, as one set. -/
abbrev TSt : Type := (Str → Bool) × Nat
def addS (s : TSt) (k : Str) : TSt := (fun j => s.1 j || decide (j = k), if s.1 k = true then s.2 else s.2 + 1)
def allS (l : List Str) : TSt := l.foldl addS (fun _ => false, 0)
theorem foldS_mono : ∀ (l : List Str) (s : TSt), s.2 ≤ (l.foldl addS s).2
  | [], s => Nat.le_refl _
  | k :: l, s => by
    refine Nat.le_trans ?_ (foldS_mono l (addS s k))
    show s.2 ≤ if s.1 k = true then s.2 else s.2 + 1
    by_cases c : s.1 k = true
    · rw [if_pos c]
      exact Nat.le_refl _
    · rw [if_neg c]
      omega
theorem allS_mono (a b : List Str) : (allS a).2 ≤ (allS (a ++ b)).2 := by
  unfold allS
  rw [List.foldl_append]
  exact foldS_mono b _
theorem allS_snoc (a : List Str) (k : Str) : allS (a ++ [k]) = addS (allS a) k := by
  unfold allS
  rw [List.foldl_append]
  rfl
theorem foldS_mem : ∀ (l : List Str) (s : TSt) (j : Str), (l.foldl addS s).1 j = (s.1 j || decide (j ∈ l))
  | [], s, j => by simp
  | k :: l, s, j => by
    show (l.foldl addS (addS s k)).1 j = _
    rw [foldS_mem l]
    show ((s.1 j || decide (j = k)) || decide (j ∈ l)) = _
    rw [Bool.or_assoc]
    congr 1
    by_cases h : j = k
    · subst h; simp
    · simp [h]
theorem allS_mem (l : List Str) (j : Str) : (allS l).1 j = decide (j ∈ l) := by
  show (l.foldl addS _).1 j = _
  rw [foldS_mem]
  rfl
abbrev allT (g : DT → List Str) (rows : List LRow) : List Str := (rows.map fun r => g r.2.1).flatten
theorem allT_succ {g : DT → List Str} {rows : List LRow} {i : Nat} (h : i < rows.length) : allT g (rows.take (i + 1)) = allT g (rows.take i) ++ g rows[i].2.1 := by
  rw [List.take_add_one, List.getElem?_eq_getElem h]
  show (List.map _ (rows.take i ++ [rows[i]])).flatten = _
  rw [List.map_append, List.flatten_append]
  show _ ++ (g rows[i].2.1 ++ []) = _
  rw [List.append_nil]
theorem allT_le {g : DT → List Str} {rows : List LRow} {i : Nat} (h : i ≤ rows.length) : (allS (allT g (rows.take i))).2 ≤ (allS (allT g rows)).2 := by
  have e : allT g rows = allT g (rows.take i) ++ allT g (rows.drop i) := by
    show (rows.map _).flatten = _
    conv => lhs; rw [← List.take_append_drop i rows]
    rw [List.map_append, List.flatten_append]
  rw [e]
  exact allS_mono _ _
abbrev SetAll (w : World) (D : Addr) (l : List Str) : HO := SetTO w D (allS l).1 (allS l).2
theorem tx_it {K : PySem.W.Frag} {w : World} {g : DT → List Str} {s0 s1 s3 s4 s5 : Option V} {c : Nat} (hc : c = 4 ∨ c = 5) {H : Hp} {Q : VK} {L : Addr} {ys : List V} {rows : List LRow}
    (hL : H L = some (.lst ys)) (ra : RowsAt K H ys rows) (st : ∀ r ∈ rows, stmtB r.2.1 = true) (few : (allS (allT g rows)).2 < 64) (k : ∀ D H', H D = none → Same H H' → H' D = some (SetAll w D (allT g rows)) → Q (.ref D) H') :
    tSc2 (fun D => SetTO w D (fun _ => false) 0) (AddT w) (iList K (tVar 2)) (gName 3) tYes (iList K (tCall (spStrs K g) [] E0 (tCons (tOp (rIxT K) (tVar 3) (tC (.int 1))) tNil))) (gName c) tYes (tVar c) [3, c] [c] [s0, s1, some (.ref L), s3, s4, s5] H Q := by
  have hl := ra.len
  refine ⟨_, rfl, L, rfl, ⟨_, SqL.of hL⟩, fun D nD => ⟨fun i m H' => m = ys.length - i ∧ i ≤ ys.length ∧ Same H H' ∧ H' D = some (SetAll w D (allT g (rows.take i))), ⟨_, rfl, Nat.zero_le _, Same.new nD, upd_same⟩, ?_⟩⟩
  rintro i m H1 ⟨rfl, hi, sm, hD⟩
  by_cases hlt : i < ys.length
  rotate_left
  · have e : i = ys.length := by omega
    subst e
    rw [show rows.take ys.length = rows by rw [List.take_of_length_le]; omega] at hD
    exact .inl ⟨⟨_, SqL.of (sm _ _ hL), Nat.le_refl _⟩, k D H1 nD sm hD⟩
  · have li : i < rows.length := by rw [← hl]; exact hlt
    obtain ⟨vi, ev, R, T, vS, vF, rfl, hR, hT, rS, rF⟩ := ra.get (List.getElem?_eq_getElem li)
    refine .inr ⟨⟨_, V.ref R, SqL.of (sm _ _ hL), ev⟩, fun H' => Same H H' ∧ H' D = some (SetAll w D (allT g (rows.take (i + 1)))), fun H' q => ⟨ys.length - (i + 1), by omega, rfl, hlt, q⟩, fun x H' y => ?_⟩
    obtain ⟨e2, ex⟩ := y
    subst e2
    have ex : ys[i]? = some x := ex _ (SqL.of (sm _ _ hL))
    obtain rfl := Option.some.inj (ev.symm.trans ex)
    have hst := st _ (List.getElem_mem li)
    have mono : (allS (allT g (rows.take (i + 1)))).2 < 64 := Nat.lt_of_le_of_lt (allT_le li) few
    rw [allT_succ li] at mono
    rw [allT_succ li]
    generalize allT g (rows.take i) = before at hD mono ⊢
    rcases hc with rfl | rfl
    all_goals
      refine ⟨rfl, ?_⟩
      refine ixT_at (i := 3) rfl (sm _ _ hR) rfl ⟨vS, rows[i].2.1, rfl, rS.keep sm, hst, fun M H4 s4 nM hM => ⟨M, rfl, ⟨_, SqL.of hM⟩, ?_⟩⟩
      generalize g rows[i].2.1 = tx at hM mono ⊢
      refine ⟨fun j kk Hj => kk = tx.length - j ∧ j ≤ tx.length ∧ (Same H Hj ∧ Hj M = some (.lst (tx.map V.str))) ∧ Hj D = some (SetAll w D (before ++ tx.take j)), ⟨_, rfl, Nat.zero_le _, ⟨sm.trans s4, hM⟩, by rw [List.take_zero, List.append_nil]; exact s4 _ _ hD⟩, ?_⟩
      rintro j kk Hj ⟨rfl, hj, ⟨sj, hMj⟩, hDj⟩
      by_cases hjl : j < tx.length
      rotate_left
      · have e : j = tx.length := by omega
        subst e
        rw [List.take_length] at hDj
        exact .inl ⟨⟨_, SqL.of hMj, by rw [List.length_map]; exact Nat.le_refl _⟩, sj, hDj⟩
      · have evj : (tx.map V.str)[j]? = some (V.str tx[j]) := by rw [List.getElem?_map, List.getElem?_eq_getElem hjl]; rfl
        refine .inr ⟨⟨_, V.str tx[j], SqL.of hMj, evj⟩, fun H' => (Same H H' ∧ H' M = some (.lst (tx.map V.str))) ∧ H' D = some (SetAll w D (before ++ tx.take (j + 1))), fun H' q => ⟨tx.length - (j + 1), by omega, rfl, hjl, q⟩, fun x H' y => ?_⟩
        obtain ⟨e3, ex3⟩ := y
        subst e3
        have ex3 : (tx.map V.str)[j]? = some x := ex3 _ (SqL.of hMj)
        obtain rfl := Option.some.inj (evj.symm.trans ex3)
        have room : (allS (before ++ tx.take j)).2 < 64 := by
          refine Nat.lt_of_le_of_lt ?_ mono
          have e : before ++ tx = before ++ tx.take j ++ tx.drop j := by rw [List.append_assoc, List.take_append_drop]
          rw [e]
          exact allS_mono _ _
        have MD : M ≠ D := fun z => by
          subst z
          cases hD.symm.trans nM
        refine ⟨rfl, _, rfl, _, ⟨tx[j], _, _, rfl, hDj, Nat.lt_trans (show _ < 65 by omega) (by decide), rfl⟩, ⟨fun b o eb => ?_, ?_⟩, ?_⟩
        · rw [upd_ne (ne_of_none eb nD)]
          exact sj b o eb
        · rw [upd_ne MD]
          exact hMj
        · rw [upd_same, show tx.take (j + 1) = tx.take j ++ [tx[j]] by rw [List.take_add_one, List.getElem?_eq_getElem hjl]; rfl, ← List.append_assoc]
          show _ = some (SetTO w D (allS (before ++ tx.take j ++ [tx[j]])).1 (allS (before ++ tx.take j ++ [tx[j]])).2)
          rw [allS_snoc]
          rfl
end Oh
namespace Oh
open PySem PySem.Spec PyProof.Rows L2 PpSet
theorem lay_stmt_b {rec : DT → List Nat → OPath → OPath → List LRow} {c : DT → Bool} (h : ∀ d p a b, c d = true → ∀ r ∈ rec d p a b, stmtB r.2.1 = true) {here : List Nat} {fol out : OPath} {rp : Bool} : ∀ (bs : List DT) (j : Nat), (∀ b ∈ bs, c b = true) → ∀ r ∈ layBlocks rec here fol out rp bs j, stmtB r.2.1 = true
  | [], _, _, r, hr => by cases hr
  | b :: bs, j, hb, r, hr => by
    unfold layBlocks at hr
    rcases List.mem_append.mp hr with hr | hr
    · cases rp
      · rw [if_neg (by decide)] at hr; exact h _ _ _ _ (hb b List.mem_cons_self) r hr
      · rw [if_pos rfl] at hr; exact h _ _ _ _ (hb b List.mem_cons_self) r hr
    · exact lay_stmt_b h bs (j + 1) (fun x hx => hb x (List.mem_cons_of_mem _ hx)) r hr
theorem lay_stmt_i {rec : DT → List Nat → OPath → OPath → List LRow} {c : DT → Bool} (h : ∀ d p a b, c d = true → ∀ r ∈ rec d p a b, stmtB r.2.1 = true) {m : Nat} {path : List Nat} {behind out : OPath} : ∀ (ds : List DT) (i : Nat), (∀ d ∈ ds, stmtB d = true ∧ ∀ b ∈ blocksB d, c b = true) → ∀ r ∈ layItems rec m path behind out ds i, stmtB r.2.1 = true
  | [], _, _, r, hr => by cases hr
  | d :: ds, i, hd, r, hr => by
    unfold layItems at hr
    rcases List.mem_cons.mp hr with rfl | hr
    · exact (hd d List.mem_cons_self).1
    rcases List.mem_append.mp hr with hr | hr
    · exact lay_stmt_b h _ _ (hd d List.mem_cons_self).2 r hr
    · exact lay_stmt_i h ds (i + 1) (fun x hx => hd x (List.mem_cons_of_mem _ hx)) r hr
theorem lay_stmt : ∀ (f : Nat) (d : DT) (p : List Nat) (a b : OPath), goodR f d = true → ∀ r ∈ layR f d p a b, stmtB r.2.1 = true
  | 0, _, _, _, _, _, r, hr => by cases hr
  | f + 1, d, p, a, b, hg, r, hr => by
    obtain ⟨l, rfl, _, good⟩ := good_inv (f := f) hg
    exact lay_stmt_i (lay_stmt f) l 0 good r hr
/-! an object's attributes are set -/
theorem upd_ins_ne {H : Hp} {C r p dx : Addr} {fs : List (Str × V)} {o z : HO} (hr : H r = some (.ins C dx fs)) (hp : H p = some o) (ne : ∀ dx fs, o ≠ .ins C dx fs) : upd H r z p = some o := by
  have h : p ≠ r := fun e => by
    subst e
    exact ne dx fs (Option.some.inj (hp.symm.trans hr))
  rw [upd_ne h]
  exact hp
mutual
theorem Rp.updI {K : PySem.W.Frag} {H : Hp} {C r dx dx' : Addr} {fs fs' : List (Str × V)} (hr : H r = some (.ins C dx fs)) : ∀ {v : V} {d : DT}, Rp K H v d → Rp K (upd H r (.ins C dx' fs')) v d
  | _, _, .non => .non
  | _, _, .bl b => .bl b
  | _, _, .int i => .int i
  | _, _, .str z => .str z
  | _, _, .tup e t => .tup (upd_ins_ne hr e (fun _ _ => nofun)) (RpAll.updI hr t)
  | _, _, .lst e => .lst (upd_ins_ne hr e (fun _ _ => nofun))
  | _, _, .dct e => .dct (upd_ins_ne hr e (fun _ _ => nofun))
  | _, _, .ins (p := p) e c => by
    by_cases h : p = r
    · subst h
      have z := Option.some.inj (e.symm.trans hr)
      injection z with h1 h2 h3
      subst h1
      exact .ins upd_same c
    · exact .ins (by rw [upd_ne h]; exact e) c
theorem RpAll.updI {K : PySem.W.Frag} {H : Hp} {C r dx dx' : Addr} {fs fs' : List (Str × V)} (hr : H r = some (.ins C dx fs)) : ∀ {vs : List V} {ds : List DT}, RpAll K H vs ds → RpAll K (upd H r (.ins C dx' fs')) vs ds
  | _, _, .nil => .nil
  | _, _, .cons h t => .cons (Rp.updI hr h) (RpAll.updI hr t)
end
theorem PathOr.updI {H : Hp} {C r dx dx' : Addr} {fs fs' : List (Str × V)} (hr : H r = some (.ins C dx fs)) {v : V} {o : OPath} (h : PathOr H v o) : PathOr (upd H r (.ins C dx' fs')) v o := by
  cases o with
  | none => exact h
  | some w =>
    obtain ⟨p, e, hp⟩ := h
    exact ⟨p, e, upd_ins_ne hr hp (fun _ _ => nofun)⟩
theorem RowAt.updI {K : PySem.W.Frag} {H : Hp} {C r dx dx' : Addr} {fs fs' : List (Str × V)} (hr : H r = some (.ins C dx fs)) {v : V} {q : LRow} (h : RowAt K H v q) : RowAt K (upd H r (.ins C dx' fs')) v q := by
  obtain ⟨R, T, vS, vF, e, h1, h2, h3, h4⟩ := h
  exact ⟨R, T, vS, vF, e, upd_ins_ne hr h1 (fun _ _ => nofun), upd_ins_ne hr h2 (fun _ _ => nofun), h3.updI hr, h4.updI hr⟩
theorem RowsAt.updI {K : PySem.W.Frag} {H : Hp} {C r dx dx' : Addr} {fs fs' : List (Str × V)} (hr : H r = some (.ins C dx fs)) : ∀ {vs : List V} {rs : List LRow}, RowsAt K H vs rs → RowsAt K (upd H r (.ins C dx' fs')) vs rs
  | _, _, .nil => .nil
  | _, _, .cons h t => .cons (RowAt.updI hr h) (RowsAt.updI hr t)
theorem TabAt.to {Z : Hp → V → LRow → Prop} {H H' : Hp} (zk : ∀ v r, Z H v r → Z H' v r) : ∀ {kvs : List (List L2.Key × V)} {rows : List LRow}, TabAt Z H kvs rows → TabAt Z H' kvs rows
  | _, _, .nil => .nil
  | _, _, .cons h t => .cons ⟨h.1, zk _ _ h.2⟩ (TabAt.to zk t)
abbrev ZS (K : PySem.W.Frag) : Hp → V → LRow → Prop := fun H v r => Rp K H v r.2.1
abbrev ZF : Hp → V → LRow → Prop := fun H v r => PathOr H v r.2.2
/-- an ascending list of the texts of a list -/
def AscAt (H : Hp) (N : Addr) (l : List Str) : Prop := ∃ ys : List Str, H N = some (.lst (ys.map V.str)) ∧ sortedS ys = true ∧ ys.Nodup ∧ ∀ k, k ∈ ys ↔ k ∈ l
abbrev rowsD (d : DT) : List LRow := layR 12 d [] none none
abbrev fsA (v : V) : List (Str × V) := [("block", v)]
abbrev fsB (v : V) (D1 : Addr) : List (Str × V) := [("block", v), ("_statements", .ref D1)]
abbrev fsC (v : V) (D1 D2 : Addr) : List (Str × V) := [("block", v), ("_statements", .ref D1), ("_followers", .ref D2)]
abbrev fsD (v : V) (D1 D2 N1 : Addr) : List (Str × V) := [("block", v), ("_statements", .ref D1), ("_followers", .ref D2), ("_names", .ref N1)]
abbrev fsE (v : V) (D1 D2 N1 N2 : Addr) : List (Str × V) := [("block", v), ("_statements", .ref D1), ("_followers", .ref D2), ("_names", .ref N1), ("_ports", .ref N2)]
/-- a routine over the block d -/
structure RoutD (K : PySem.W.Frag) (H : Hp) (hR r : Addr) (v : V) (d : DT) : Prop where
  ex : ∃ (dx D1 D2 N1 N2 : Addr) (k1 k2 : List (List L2.Key × V)), H r = some (.ins hR dx (fsE v D1 D2 N1 N2)) ∧
    H D1 = some (.dT k1) ∧ TabAt (ZS K) H k1 (rowsD d) ∧ H D2 = some (.dT k2) ∧ TabAt ZF H k2 (rowsD d) ∧ AscAt H N1 (allT namesB (rowsD d)) ∧ AscAt H N2 (allT portsB (rowsD d))
  rp : Rp K H v d
def spInitD (K : PySem.W.Frag) (hR hBR : Addr) : Sp := fun vs H Q E => ∃ r v d dx, vs = [.ref r, v] ∧ Rp K H v d ∧ H r = some (.ins hR dx []) ∧
  (dueB d = none → (allS (allT namesB (rowsD d))).2 < 64 ∧ (allS (allT portsB (rowsD d))).2 < 64 ∧ ∀ H', (∀ b o, H b = some o → b ≠ r → H' b = some o) → RoutD K H' hR r v d → Q .non H') ∧
  ∀ w, dueB d = some w → ∀ (e : Addr) (u : V) H', Same H H' → H' e = some (.xd [("what", u)]) → PathOr H' u w → E (.ref hBR) (some e) H'
/-- the new routine while its attributes are set -/
structure PkD (K : PySem.W.Frag) (H0 : Hp) (hR r L : Addr) (v : V) (d : DT) (ys : List V) (dx : Addr) (fs : List (Str × V)) (Hn : Hp) : Prop where
  ex : Hn r = some (.ins hR dx fs)
  la : Hn L = some (.lst ys)
  ra : RowsAt K Hn ys (rowsD d)
  rp : Rp K Hn v d
  sb : ∀ b o, H0 b = some o → b ≠ r → Hn b = some o
theorem PkD.same {K : PySem.W.Frag} {H0 : Hp} {hR r L dx : Addr} {v : V} {d : DT} {ys : List V} {fs : List (Str × V)} {Hn Hm : Hp} (p : PkD K H0 hR r L v d ys dx fs Hn) (s : Same Hn Hm) : PkD K H0 hR r L v d ys dx fs Hm :=
  ⟨s _ _ p.ex, s _ _ p.la, p.ra.keep s, p.rp.keep s, fun b o e nb => s _ _ (p.sb b o e nb)⟩
theorem PkD.put {K : PySem.W.Frag} {H0 : Hp} {hR r L dx : Addr} {v : V} {d : DT} {ys : List V} {fs fs' : List (Str × V)} {Hn : Hp} (p : PkD K H0 hR r L v d ys dx fs Hn) : PkD K H0 hR r L v d ys dx fs' (upd Hn r (.ins hR dx fs')) :=
  ⟨upd_same, upd_ins_ne p.ex p.la (fun _ _ => nofun), p.ra.updI p.ex, p.rp.updI p.ex, fun b o e nb => by rw [upd_ne nb]; exact p.sb b o e nb⟩
section
variable {P : Program} {w : World} {K : PySem.W.Frag} {mg : Str → Option Value} {base : Heap} {hR hBR : Addr}
theorem ok_rinitD {f fC fL fN fP : Addr} {fd fdC fdL fdN fdP : FuncData} (F : Fun K "__init__" "Routine.__init__" sRInit f fd) (T : RCls K hR) (mso : mg "sorted" = none)
    (GC : FnOk P w K mg base (L2.CX P w) 36 fC fdC ["block"] (spCheckD K hBR)) (kC : PySem.W.keepIn K (.ref fC) = true) (bC : Binds K fdC ["block"] []) (mC : mg "_check" = some (.ref fC))
    (GL : FnOk P w K mg base CX0 13 fL fdL ["block", "path", "behind", "outside"] (spLay K 11)) (kL : PySem.W.keepIn K (.ref fL) = true) (bL : Binds K fdL ["block", "path", "behind", "outside"] []) (mL : mg "laid_out" = some (.ref fL))
    (GN : FnOk P w K mg base CX0 8 fN fdN ["statement"] (spStrs K namesB)) (kN : PySem.W.keepIn K (.ref fN) = true) (bN : Binds K fdN ["statement"] []) (mN : mg "names_of" = some (.ref fN))
    (GP : FnOk P w K mg base CX0 1 fP fdP ["statement"] (spStrs K portsB)) (kP : PySem.W.keepIn K (.ref fP) = true) (bP : Binds K fdP ["statement"] []) (mP : mg "ports_of" = some (.ref fP)) :
    FnOk P w K mg base (L2.CX P w) 37 f fd ["self", "block"] (spInitD K hR hBR) := by
  refine F.okX scRInit (fun vs H Q E h => ?_) (fun cdv A outer s H vs Q E hr h => ?_)
  · obtain ⟨r, v, d, dx, rfl, _⟩ := h
    rfl
  · obtain ⟨r, v, d, dx, rfl, rv, hr0, kn, kx⟩ := h
    have hr1 : Room 1 _ := hr.mono (by decide)
    have hr8 : Room 8 _ := hr.mono (by decide)
    have hr13 : Room 13 _ := hr.mono (by decide)
    have hu := hu_of hr1
    refine ⟨_, pss_cons (ps_expr (pe_call GC hr (by rfl) mC kC bC .nil (passes_call (takes_of rfl rfl rfl rfl) (fun _ _ _ _ h => h)) (pa_cons (pv 1) pa_nil)))
      (pss_cons (ps_fld (pv 0) (pv 1) rfl)
      (pss_cons (ps_set (i := 2) scRInit.nd rfl (Or.inl rfl) (pe_call GL hr13 (by rfl) mL kL bL .nil pass0 (pa_cons (pv 1) (pa_cons (pe_tup pa_nil) (pa_cons pe_non (pa_cons pe_non pa_nil))))))
      (pss_cons (ps_fld (pv 0) (pe_dcT (own := [("row", 3)]) (g := gName 3) (tt := tYes) (tk := tOp (rIxT K) (tVar 3) (tC (.int 0))) (tv := tOp (rIxT K) (tVar 3) (tC (.int 1))) (Nat.lt_of_succ_lt hu) rfl scRInit.nd (pi_list (pv 2)) (blkOk_by (N := nIn) (sc := defScope sRInit) (by decide +kernel)) (fun _ _ _ _ _ => pg_name (i := 3) scRInit.nd rfl (Or.inl rfl)) (fun _ _ _ _ _ => pts_nil)
          (fun _ _ _ _ _ => pe_ix ix_tup (pv 3) pe_int (fun _ _ => rfl)) (fun _ _ _ _ _ => pe_ix ix_tup (pv 3) pe_int (fun _ _ => rfl))) rfl)
      (pss_cons (ps_fld (pv 0) (pe_dcT (own := [("row", 3)]) (g := gName 3) (tt := tYes) (tk := tOp (rIxT K) (tVar 3) (tC (.int 0))) (tv := tOp (rIxT K) (tVar 3) (tC (.int 2))) (Nat.lt_of_succ_lt hu) rfl scRInit.nd (pi_list (pv 2)) (blkOk_by (N := nIn) (sc := defScope sRInit) (by decide +kernel)) (fun _ _ _ _ _ => pg_name (i := 3) scRInit.nd rfl (Or.inl rfl)) (fun _ _ _ _ _ => pts_nil)
          (fun _ _ _ _ _ => pe_ix ix_tup (pv 3) pe_int (fun _ _ => rfl)) (fun _ _ _ _ _ => pe_ix ix_tup (pv 3) pe_int (fun _ _ => rfl))) rfl)
      (pss_cons (ps_fld (pv 0) (pe_callB (cr_sortedT rfl) (by rfl) mso boot_sorted (pa_cons
          (pe_sc2 (own := [("row", 3), ("name", 4)]) (vs1 := [4]) (g := gName 3) (tt := tYes) (g1 := gName 4) (tt1 := tYes) (wi1 := iList K (tCall (spStrs K namesB) [] E0 (tCons (tOp (rIxT K) (tVar 3) (tC (.int 1))) tNil))) (te := tVar 4) (kindT P w) rfl scRInit.nd (pi_list (pv 2))
            (blkOk_by (N := nIn) (sc := defScope sRInit) (by decide +kernel)) (by decide +kernel) (fun _ _ _ _ _ => pg_name (i := 3) scRInit.nd rfl (Or.inl rfl)) (fun _ _ _ _ _ => pts_nil)
            (fun _ _ _ _ _ => pi_list (by exact (pe_call GN hr8 (by rfl) mN kN bN .nil pass0 (pa_cons (pe_ix ix_tup (pv 3) pe_int (fun _ _ => rfl)) pa_nil)))) (fun _ _ _ _ _ => pg_name (i := 4) scRInit.nd rfl (Or.inl rfl)) (fun _ _ _ _ _ => pts_nil) (fun _ _ _ _ _ => pv 4)) pa_nil)) rfl)
      (pss_one (ps_fld (pv 0) (pe_callB (cr_sortedT rfl) (by rfl) mso boot_sorted (pa_cons
          (pe_sc2 (own := [("row", 3), ("port", 5)]) (vs1 := [5]) (g := gName 3) (tt := tYes) (g1 := gName 5) (tt1 := tYes) (wi1 := iList K (tCall (spStrs K portsB) [] E0 (tCons (tOp (rIxT K) (tVar 3) (tC (.int 1))) tNil))) (te := tVar 5) (kindT P w) rfl scRInit.nd (pi_list (pv 2))
            (blkOk_by (N := nIn) (sc := defScope sRInit) (by decide +kernel)) (by decide +kernel) (fun _ _ _ _ _ => pg_name (i := 3) scRInit.nd rfl (Or.inl rfl)) (fun _ _ _ _ _ => pts_nil)
            (fun _ _ _ _ _ => pi_list (by exact (pe_call GP hr1 (by rfl) mP kP bP .nil pass0 (pa_cons (pe_ix ix_tup (pv 3) pe_int (fun _ _ => rfl)) pa_nil)))) (fun _ _ _ _ _ => pg_name (i := 5) scRInit.nd rfl (Or.inl rfl)) (fun _ _ _ _ _ => pts_nil) (fun _ _ _ _ _ => pv 5)) pa_nil)) rfl))))))), ?_⟩
    refine ⟨_, rfl, v, d, rfl, rv, fun due H1 s1 => ?_, kx⟩
    obtain ⟨few1, few2, k⟩ := kn due
    obtain ⟨hb, hg, hc⟩ := due_none due
    have h1 := s1 _ _ hr0
    have st : ∀ q ∈ rowsD d, stmtB q.2.1 = true := lay_stmt 12 d [] none none hg
    have nd : ((rowsD d).map (·.1)).Nodup := lay_nodup 12 d [] none none
    have fw : (rowsD d).length ≤ 10000 := by
      rw [lay_len]
      exact Nat.le_trans hc (by decide)
    refine ⟨_, rfl, _, rfl, r, hR, dx, [], rfl, h1, T.cl, T.n1, by decide, ?_⟩
    refine ⟨_, rfl, by decide, fun p np => ⟨v, d, p, .non, .non, [], none, none, rfl, ((rv.keep s1).updI h1).keep (Same.new np), hg, upd_same, by decide, Nat.le_trans hc (by decide), rfl, rfl, fun L H3 ys s3 nL hL ra => ?_⟩⟩
    have pk : PkD K H hR r L v d ys dx [("block", v)] H3 := ⟨s3 _ _ ((Same.new np) _ _ upd_same), hL, ra, ((((rv.keep s1).updI h1).keep (Same.new np)).keep s3), fun b o e nb => s3 _ _ ((Same.new np) _ _ (by rw [upd_ne nb]; exact s1 _ _ e))⟩
    dsimp only [tSeq, gName, sFld]
    refine tab_it (Z := ZS K) (fun s z => Rp.keep s z) (fun a _ => a) (fun _ _ _ => rfl) (fun a _ => a) pk.la pk.ra nd fw ?_
    intro D1 H4 k1 n4 s4 hD1 t1
    have p4 := pk.same s4
    refine ⟨_, rfl, r, hR, dx, _, rfl, p4.ex, T.cl, T.n2, (by show 1 < 1000; decide), ?_⟩
    have e5 : putF "_statements" (V.ref D1) (fsA v) = (fsB v D1) := rfl
    rw [e5]
    have p5 := p4.put (fs' := (fsB v D1))
    have d1 := upd_ins_ne (z := .ins hR dx (fsB v D1)) p4.ex hD1 (fun _ _ => nofun)
    have t1 := t1.to (Z := ZS K) fun _ _ h => Rp.updI (dx' := dx) (fs' := (fsB v D1)) p4.ex h
    obtain ⟨H5, hH5⟩ : ∃ H5, H5 = upd H4 r (.ins hR dx (fsB v D1)) := ⟨_, rfl⟩
    rw [← hH5] at p5 d1 t1 ⊢
    refine tab_it (Z := ZF) (fun s z => PathOr.keep s z) (fun _ b => b) (fun _ _ _ => rfl) (fun _ b => b) p5.la p5.ra nd fw ?_
    intro D2 H6 k2 n6 s6 hD2 t2
    have p6 := p5.same s6
    have d1 := s6 _ _ d1
    have t1 := t1.to (Z := ZS K) fun _ _ h => Rp.keep s6 h
    refine ⟨_, rfl, r, hR, dx, _, rfl, p6.ex, T.cl, T.n3, (by show 2 < 1000; decide), ?_⟩
    have e7 : putF "_followers" (V.ref D2) (fsB v D1) = (fsC v D1 D2) := rfl
    rw [e7]
    have p7 := p6.put (fs' := (fsC v D1 D2))
    have d1 := upd_ins_ne (z := .ins hR dx (fsC v D1 D2)) p6.ex d1 (fun _ _ => nofun)
    have d2 := upd_ins_ne (z := .ins hR dx (fsC v D1 D2)) p6.ex hD2 (fun _ _ => nofun)
    have t1 := t1.to (Z := ZS K) fun _ _ h => Rp.updI (dx' := dx) (fs' := (fsC v D1 D2)) p6.ex h
    have t2 := t2.to (Z := ZF) fun _ _ h => PathOr.updI (dx' := dx) (fs' := (fsC v D1 D2)) p6.ex h
    obtain ⟨H7, hH7⟩ : ∃ H7, H7 = upd H6 r (.ins hR dx (fsC v D1 D2)) := ⟨_, rfl⟩
    rw [← hH7] at p7 d1 d2 t1 t2 ⊢
    dsimp only [tSeq, gName, sFld, tCB, tCons, tNil]
    refine tx_it (c := 4) (g := namesB) (.inl rfl) p7.la p7.ra st few1 ?_
    intro S1 H8 n8 s8 e8
    refine ⟨S1, _, _, rfl, e8, few1, fun ns N1 a1 a2 a3 _ nN1 => ?_⟩
    have s9 : Same H7 (upd H8 N1 (.lst (ns.map V.str))) := s8.trans (Same.new nN1)
    have x1 : upd H8 N1 (.lst (ns.map V.str)) N1 = some (.lst (ns.map V.str)) := upd_same
    obtain ⟨H9, hH9⟩ : ∃ H9, H9 = upd H8 N1 (.lst (ns.map V.str)) := ⟨_, rfl⟩
    rw [← hH9] at s9 x1 ⊢
    have p9 := p7.same s9
    refine ⟨_, rfl, r, hR, dx, _, rfl, p9.ex, T.cl, T.n4, (by show 3 < 1000; decide), ?_⟩
    have e10 : putF "_names" (V.ref N1) (fsC v D1 D2) = (fsD v D1 D2 N1) := rfl
    rw [e10]
    have p10 := p9.put (fs' := (fsD v D1 D2 N1))
    have x1 := upd_ins_ne (z := .ins hR dx (fsD v D1 D2 N1)) p9.ex x1 (fun _ _ => nofun)
    have d1 := upd_ins_ne (z := .ins hR dx (fsD v D1 D2 N1)) p9.ex (s9 _ _ d1) (fun _ _ => nofun)
    have d2 := upd_ins_ne (z := .ins hR dx (fsD v D1 D2 N1)) p9.ex (s9 _ _ d2) (fun _ _ => nofun)
    have t1 := t1.to (Z := ZS K) fun _ _ h => Rp.updI (dx' := dx) (fs' := (fsD v D1 D2 N1)) p9.ex (Rp.keep s9 h)
    have t2 := t2.to (Z := ZF) fun _ _ h => PathOr.updI (dx' := dx) (fs' := (fsD v D1 D2 N1)) p9.ex (PathOr.keep s9 h)
    obtain ⟨HA, hHA⟩ : ∃ HA, HA = upd H9 r (.ins hR dx (fsD v D1 D2 N1)) := ⟨_, rfl⟩
    rw [← hHA] at p10 x1 d1 d2 t1 t2 ⊢
    refine tx_it (c := 5) (g := portsB) (.inr rfl) p10.la p10.ra st few2 ?_
    intro S2 HB nB sB eB
    refine ⟨S2, _, _, rfl, eB, few2, fun ps N2 b1 b2 b3 _ nN2 => ?_⟩
    have sC : Same HA (upd HB N2 (.lst (ps.map V.str))) := sB.trans (Same.new nN2)
    have x2 : upd HB N2 (.lst (ps.map V.str)) N2 = some (.lst (ps.map V.str)) := upd_same
    obtain ⟨HC, hHC⟩ : ∃ HC, HC = upd HB N2 (.lst (ps.map V.str)) := ⟨_, rfl⟩
    rw [← hHC] at sC x2 ⊢
    have pC := p10.same sC
    refine ⟨_, rfl, r, hR, dx, _, rfl, pC.ex, T.cl, T.n5, (by show 4 < 1000; decide), ?_⟩
    have eD : putF "_ports" (V.ref N2) (fsD v D1 D2 N1) = fsE v D1 D2 N1 N2 := rfl
    rw [eD]
    have pD := pC.put (fs' := fsE v D1 D2 N1 N2)
    refine k _ pD.sb ⟨⟨dx, D1, D2, N1, N2, k1, k2, pD.ex, upd_ins_ne pC.ex (sC _ _ d1) (fun _ _ => nofun), t1.to fun _ _ h => Rp.updI pC.ex (Rp.keep sC h), upd_ins_ne pC.ex (sC _ _ d2) (fun _ _ => nofun), t2.to fun _ _ h => PathOr.updI pC.ex (PathOr.keep sC h), ⟨ns, upd_ins_ne pC.ex (sC _ _ x1) (fun _ _ => nofun), a1, a2, fun q => ?_⟩, ⟨ps, upd_ins_ne pC.ex x2 (fun _ _ => nofun), b1, b2, fun q => ?_⟩⟩, pD.rp⟩
    · rw [a3, allS_mem]
      exact decide_eq_true_iff
    · rw [b3, allS_mem]
      exact decide_eq_true_iff
end
end Oh
namespace Oh
open PySem PySem.Spec PyProof.Rows L2 PpSet
abbrev sRNames : Stmt := inClass (top 47) 2
abbrev sRPorts : Stmt := inClass (top 47) 3
abbrev sRFollower : Stmt := inClass (top 47) 7
/-- the new list of the texts -/
def spAsc (K : PySem.W.Frag) (hR : Addr) (g : DT → List Str) : Sp := fun vs H Q _ => ∃ r v d, vs = [.ref r] ∧ RoutD K H hR r v d ∧ ∀ (ys : List Str) (p : Addr), sortedS ys = true → ys.Nodup → (∀ k, k ∈ ys ↔ k ∈ allT g (rowsD d)) → H p = none → Q (.ref p) (upd H p (.lst (ys.map V.str)))
theorem TabAt.get {Z : Hp → V → LRow → Prop} {H : Hp} : ∀ {kvs : List (List L2.Key × V)} {rows : List LRow}, TabAt Z H kvs rows → ∀ q ∈ rows, ∃ q' v, q' ∈ rows ∧ q'.1 = q.1 ∧ valV kvs (keyP q.1) = some v ∧ Z H v q'
  | _, _, .nil, q, hq => by cases hq
  | _, _, .cons (a := kv) (b := r) (l₁ := a) (l₂ := b) h t, q, hq => by
    by_cases c : r.1 = q.1
    · refine ⟨r, kv.2, List.mem_cons_self, c, ?_, h.2⟩
      unfold valV
      rw [List.find?_cons_of_pos (by rw [h.1, c]; simp)]
      rfl
    · rcases List.mem_cons.mp hq with rfl | hq
      · exact absurd rfl c
      · obtain ⟨q', v, m, e, e2, z⟩ := TabAt.get t q hq
        refine ⟨q', v, List.mem_cons_of_mem _ m, e, ?_, z⟩
        unfold valV at e2 ⊢
        rw [List.find?_cons_of_neg (by rw [h.1]; simpa using fun z => c (keyP_inj z))]
        exact e2
theorem lay_one {f : Nat} {d : DT} {p : List Nat} {a b : OPath} {q q' : LRow} (h : q ∈ layR f d p a b) (h' : q' ∈ layR f d p a b) (e : q'.1 = q.1) : q' = q := by
  have two := lay_two f d p a b
  obtain ⟨i, hi, ei⟩ := List.mem_iff_getElem.mp h
  obtain ⟨j, hj, ej⟩ := List.mem_iff_getElem.mp h'
  by_cases c : i = j
  · subst c
    exact ej.symm.trans ei
  · rcases Nat.lt_or_gt_of_ne c with c | c
    · exact absurd (show _ = _ by rw [ei, ej]; exact e.symm) (List.pairwise_iff_getElem.mp two i j hi hj c)
    · exact absurd (show _ = _ by rw [ei, ej]; exact e) (List.pairwise_iff_getElem.mp two j i hj hi c)
/-- what comes behind the statement at the path -/
def spFol (K : PySem.W.Frag) (hR : Addr) : Sp := fun vs H Q _ => ∃ r v d p q, vs = [.ref r, .ref p] ∧ RoutD K H hR r v d ∧ q ∈ rowsD d ∧ H p = some (.tup (pathV q.1)) ∧ ∀ u, PathOr H u q.2.2 → Q u H
section
variable {P : Program} {w : World} {K : PySem.W.Frag} {mg : Str → Option Value} {base : Heap} {hR : Addr}
theorem scRNames : FnScope ["self"] ["self"] (defScope sRNames) := ⟨rfl, rfl, rfl, by decide +kernel, rfl, by decide +kernel, by decide +kernel⟩
theorem scRPorts : FnScope ["self"] ["self"] (defScope sRPorts) := ⟨rfl, rfl, rfl, by decide +kernel, rfl, by decide +kernel, by decide +kernel⟩
theorem scRFollower : FnScope ["self", "path"] ["self", "path"] (defScope sRFollower) := ⟨rfl, rfl, rfl, by decide +kernel, rfl, by decide +kernel, by decide +kernel⟩
theorem ok_names {f : Addr} {fd : FuncData} (F : Fun K "names" "Routine.names" sRNames f fd) (C : RCls K hR) (mL : mg "list" = none) : FnOk P w K mg base CX0 1 f fd ["self"] (spAsc K hR namesB) := by
  refine F.ok scRNames (fun vs H Q E h => ?_) (fun cdv A outer s H vs Q E hr h => ?_)
  · obtain ⟨r, v, d, rfl, _⟩ := h
    rfl
  · obtain ⟨r, v, d, rfl, R, k⟩ := h
    obtain ⟨dx, D1, D2, N1, N2, k1, k2, e, d1, t1, d2, t2, ⟨ys, e1, a1, a2, a3⟩, _⟩ := R.ex
    exact ⟨_, pss_one (ps_ret (pe_callTy call_list_of (by rfl) mL bb_list (pa_cons (pe_fld (pv 0) rfl) pa_nil))),
      ⟨_, rfl, r, hR, dx, _, _, rfl, e, C.cl, C.n4, rfl, N1, _, rfl, .inl (SqL.of e1), fun l nl => k ys l a1 a2 a3 nl⟩⟩
theorem ok_ports {f : Addr} {fd : FuncData} (F : Fun K "ports" "Routine.ports" sRPorts f fd) (C : RCls K hR) (mL : mg "list" = none) : FnOk P w K mg base CX0 1 f fd ["self"] (spAsc K hR portsB) := by
  refine F.ok scRPorts (fun vs H Q E h => ?_) (fun cdv A outer s H vs Q E hr h => ?_)
  · obtain ⟨r, v, d, rfl, _⟩ := h
    rfl
  · obtain ⟨r, v, d, rfl, R, k⟩ := h
    obtain ⟨dx, D1, D2, N1, N2, k1, k2, e, d1, t1, d2, t2, _, ys, e1, a1, a2, a3⟩ := R.ex
    exact ⟨_, pss_one (ps_ret (pe_callTy call_list_of (by rfl) mL bb_list (pa_cons (pe_fld (pv 0) rfl) pa_nil))),
      ⟨_, rfl, r, hR, dx, _, _, rfl, e, C.cl, C.n5, rfl, N2, _, rfl, .inl (SqL.of e1), fun l nl => k ys l a1 a2 a3 nl⟩⟩
theorem ok_follower {f : Addr} {fd : FuncData} (F : Fun K "follower" "Routine.follower" sRFollower f fd) (C : RCls K hR) : FnOk P w K mg base CX0 1 f fd ["self", "path"] (spFol K hR) := by
  refine F.ok scRFollower (fun vs H Q E h => ?_) (fun cdv A outer s H vs Q E hr h => ?_)
  · obtain ⟨r, v, d, p, q, rfl, _⟩ := h
    rfl
  · obtain ⟨r, v, d, p, q, rfl, R, hq, hp, k⟩ := h
    have hu := hu_of hr
    obtain ⟨dx, D1, D2, N1, N2, k1, k2, e, d1, t1, d2, t2, _⟩ := R.ex
    obtain ⟨q', u, m, eq, ev, z⟩ := t2.get q hq
    obtain rfl := lay_one hq m eq
    refine ⟨_, pss_one (ps_ret (pe_dget hu (pe_fld (pv 0) rfl) (pv 1) (fun _ _ => rfl))), ?_⟩
    refine ⟨_, rfl, r, hR, dx, _, _, rfl, e, C.cl, C.n3, rfl, _, rfl, D2, u, rfl, ?_, k u z⟩
    rw [← ev]
    exact DGet.t d2 (by rw [pathV_key]; exact hp)
end
end Oh
namespace Oh
open PySem PySem.Spec PyProof.Rows L2 PpSet
abbrev sIsPath : Stmt := top 13
def pathFormB (d : DT) : Bool := match d with
  | .tup l => decide (l.length ≤ 23) && (l.map intB).all id
  | _ => false
abbrev nPa : List Str := ["value", "step"]
section
variable {P : Program} {w : World} {K : PySem.W.Frag} {mg : Str → Option Value} {base : Heap} {kw : Addr}
theorem scIsPath : FnScope nPa ["value"] (defScope sIsPath) := ⟨rfl, rfl, rfl, by decide +kernel, rfl, by decide +kernel, by decide +kernel⟩
theorem ok_isPath {f fI : Addr} {fd fdI : FuncData} (F : Fun K "is_path" "is_path" sIsPath f fd) (T : TxtF K mg kw) (mP : ∃ t, mg "LONGEST_PATH" = some (.int 23 t))
    (GI : FnOk P w K mg base CX0 1 fI fdI ["value"] (spB K intB)) (kI : PySem.W.keepIn K (.ref fI) = true) (bI : Binds K fdI ["value"] []) (mI : mg "is_integer" = some (.ref fI)) : FnOk P w K mg base CX0 2 f fd ["value"] (spB K pathFormB) := by
  refine F.ok scIsPath (fun vs H Q E h => ?_) (fun cdv A outer s H vs Q E hr h => ?_)
  · obtain ⟨v, d, rfl, _⟩ := h
    rfl
  · obtain ⟨v, d, rfl, r, k⟩ := h
    have k0 := k H (Same.refl H)
    obtain ⟨t1, y1, z1⟩ := isi_of r (.inr (.inr (.inr rfl)))
    obtain ⟨t, ml⟩ := mP
    refine ⟨_, pss_cons (ps_if (pw_or (pt_not (pt_val (pe_isi (pv 0) mono_var T.isi T.tuple bb_tuple))) (pw_or1 (pt_cmpR op_gt (pe_callB call_len_seq (by rfl) T.len boot_len (pa_cons (pv 0) pa_nil)) (pe_glob (v := .int 23) (by rfl) ml ⟨t, rfl⟩) (nomark _)))).pt (pss_one (ps_ret pe_bl)) pss_nil)
      (pss_one (ps_ret (pe_callB (cr_all rfl) (by rfl) T.all boot_allO (pa_cons
        (pe_lc (own := [("step", 1)]) (g := gName 1) (tt := tYes) rfl scIsPath.nd (pi_tup (pv 0)) (blkOk_by (N := nPa) (sc := defScope sIsPath) (by decide +kernel)) (fun _ _ _ _ _ => pg_name (i := 1) scIsPath.nd rfl (Or.inl rfl)) (fun _ _ _ _ _ => pts_nil)
          (fun _ _ _ _ _ => pe_call GI hr (by rfl) mI kI bI .nil pass0 (pa_cons (pv 1) pa_nil))) pa_nil)))), ?_⟩
    refine ⟨_, rfl, t1, _, y1, z1, _, rfl, ?_⟩
    cases hb : isB d "tuple" with
    | false =>
      have e : pathFormB d = false := by
        cases d with
        | tup l => cases hb
        | _ => rfl
      rw [e] at k0
      exact iteT k0
    | true =>
      refine iteF ?_
      obtain ⟨l, rfl⟩ := isTup hb
      obtain ⟨p, xs, rfl, hp, ra⟩ := r.tup_inv
      have hl := ra.len
      refine ⟨_, rfl, p, xs, rfl, .inr (SqT.of hp), _, _, rfl, rfl, _, rfl, ?_⟩
      by_cases c : l.length ≤ 23
      rotate_left
      · refine ite2 (fun _ => ?_) (fun z => absurd (decide_eq_true (show (23 : Int) < xs.length by omega)) z)
        rw [show pathFormB (.tup l) = false by show (decide (l.length ≤ 23) && _) = false; rw [decide_eq_false c]; rfl] at k0
        exact k0
      · refine ite2 (fun z => absurd (of_decide_eq_true z) (by omega)) fun _ => ?_
        have e : pathFormB (.tup l) = (l.map intB).all id := by
          show (decide (l.length ≤ 23) && _) = _
          rw [decide_eq_true c, Bool.true_and]
        rw [e] at k
        refine ⟨_, rfl, p, rfl, ⟨_, SqT.of hp⟩, fun D nD => lc_it (walk_tup (xs := xs)) (fun i H' => Same H H' ∧ H' D = some (.lst (((l.map intB).take i).map V.bl))) ⟨Same.new nD, upd_same⟩ (fun i H' _ z => SqT.of (z.1 _ _ hp)) ?_ ?_⟩
        · rintro i x Ha Hb hi ⟨sa, da⟩ ⟨e, ex⟩
          subst e
          have li : i < l.length := by rw [← hl]; exact hi
          obtain ⟨vi, ev, rv⟩ := ra.get (i := i) (d := l[i]) (List.getElem?_eq_getElem li)
          obtain rfl := Option.some.inj (ev.symm.trans ex)
          have lc : (l.map intB)[i]? = some (intB l[i]) := by rw [List.getElem?_map, List.getElem?_eq_getElem li]; rfl
          refine ⟨rfl, _, rfl, vi, l[i], rfl, rv.keep sa, fun Hc sc => ⟨_, sc _ _ da, ?_, fun b o e => ?_, ?_⟩⟩
          · rw [List.length_map, List.length_take, List.length_map]
            exact Nat.lt_of_le_of_lt (Nat.min_le_right _ _) (Nat.lt_of_le_of_lt c (by decide))
          · rw [upd_ne (ne_of_none e nD)]
            exact sc _ _ (sa _ _ e)
          · rw [upd_same, List.take_add_one, lc]
            simp
        · rintro H2 ⟨s2, d2⟩
          refine ⟨D, l.map intB, rfl, SqL.of ?_, k H2 s2⟩
          rw [d2, List.take_of_length_le]
          rw [List.length_map, hl]
          exact Nat.le_refl _
end
end Oh
namespace Oh
open PySem PySem.Spec PyProof.Rows L2 PpSet
abbrev sRStatement : Stmt := inClass (top 47) 6
theorem AscAt.keep {H H' : Hp} (s : Same H H') {N : Addr} {l : List Str} (h : AscAt H N l) : AscAt H' N l := by
  obtain ⟨ys, a, b⟩ := h
  exact ⟨ys, s _ _ a, b⟩
theorem RoutD.keep {K : PySem.W.Frag} {H H' : Hp} {hR r : Addr} {v : V} {d : DT} (s : Same H H') (R : RoutD K H hR r v d) : RoutD K H' hR r v d := by
  obtain ⟨dx, D1, D2, N1, N2, k1, k2, e, d1, t1, d2, t2, a1, a2⟩ := R.ex
  exact ⟨⟨dx, D1, D2, N1, N2, k1, k2, s _ _ e, s _ _ d1, t1.to fun _ _ h => Rp.keep s h, s _ _ d2, t2.to fun _ _ h => PathOr.keep s h, a1.keep s, a2.keep s⟩, R.rp.keep s⟩
theorem short_b {rec : DT → List Nat → OPath → OPath → List LRow} {n : Nat} (h : ∀ d p a b, ∀ r ∈ rec d p a b, r.1.length + 1 ≤ p.length + n) {here : List Nat} {fol out : OPath} {rp : Bool} : ∀ (bs : List DT) (j : Nat), ∀ r ∈ layBlocks rec here fol out rp bs j, r.1.length + 1 ≤ here.length + 1 + n
  | [], _, r, hr => by cases hr
  | b :: bs, j, r, hr => by
    unfold layBlocks at hr
    rcases List.mem_append.mp hr with hr | hr
    · have : ∃ a c, r ∈ rec b (here ++ [j]) a c := by
        cases rp
        · rw [if_neg (by decide)] at hr; exact ⟨_, _, hr⟩
        · rw [if_pos rfl] at hr; exact ⟨_, _, hr⟩
      obtain ⟨a, c, hm⟩ := this
      have := h _ _ _ _ r hm
      rw [List.length_append, List.length_singleton] at this
      exact this
    · exact short_b h bs (j + 1) r hr
theorem short_i {rec : DT → List Nat → OPath → OPath → List LRow} {n : Nat} (h : ∀ d p a b, ∀ r ∈ rec d p a b, r.1.length + 1 ≤ p.length + n) {m : Nat} {path : List Nat} {behind out : OPath} : ∀ (ds : List DT) (i : Nat), ∀ r ∈ layItems rec m path behind out ds i, r.1.length + 1 ≤ path.length + (n + 2)
  | [], _, r, hr => by cases hr
  | d :: ds, i, r, hr => by
    unfold layItems at hr
    rcases List.mem_cons.mp hr with rfl | hr
    · show (path ++ [i]).length + 1 ≤ _
      rw [List.length_append, List.length_singleton]
      omega
    rcases List.mem_append.mp hr with hr | hr
    · have := short_b h _ _ r hr
      rw [List.length_append, List.length_singleton] at this
      omega
    · exact short_i h ds (i + 1) r hr
theorem lay_short : ∀ (f : Nat) (d : DT) (p : List Nat) (a b : OPath), ∀ r ∈ layR f d p a b, r.1.length + 1 ≤ p.length + 2 * f
  | 0, _, _, _, _, r, hr => by cases hr
  | f + 1, d, p, a, b, r, hr => by
    have := short_i (lay_short f) _ _ r hr
    omega
abbrev pathD (w : List Nat) : DT := .tup (w.map fun (n : Nat) => DT.int (n : Int))
theorem TabAt.none' {Z : Hp → V → LRow → Prop} {H : Hp} {kk : List L2.Key} : ∀ {kvs : List (List L2.Key × V)} {rows : List LRow}, TabAt Z H kvs rows → (∀ r ∈ rows, keyP r.1 ≠ kk) → valV kvs kk = Option.none
  | _, _, .nil, _ => rfl
  | _, _, .cons (a := kv) (b := r) h t, ne => by
    have n1 : ¬ kv.1 = kk := fun e => ne r (List.mem_cons_self ..) (h.1.symm.trans e)
    have z := TabAt.none' t fun q hq => ne q (List.mem_cons_of_mem _ hq)
    unfold valV at z ⊢
    rw [List.find?_cons_of_neg (by simpa using n1)]
    exact z
theorem ints_inv {K : PySem.W.Frag} {H : Hp} : ∀ {vs : List V} {l : List DT}, RpAll K H vs l → (l.map intB).all id = true → ∃ is : List Int, l = is.map DT.int ∧ vs = (is.map fun i => (.inl i : L2.Key)).map kV
  | _, _, .nil, _ => ⟨[], rfl, rfl⟩
  | _, _, .cons (d := d) r t, h => by
    rw [List.map_cons, List.all_cons, Bool.and_eq_true] at h
    obtain ⟨is, e1, e2⟩ := ints_inv t h.2
    cases r with
    | int i => exact ⟨i :: is, by rw [e1]; rfl, by rw [e2]; rfl⟩
    | _ => exact absurd h.1 (by simp [intB])
theorem key_path {w : List Nat} {is : List Int} (e : keyP w = is.map fun i => (.inl i : L2.Key)) : DT.tup (is.map DT.int) = pathD w := by
  have : is = w.map fun (n : Nat) => (n : Int) := by
    have h := congrArg (List.map fun k : L2.Key => match k with | .inl i => i | .inr _ => 0) e
    rw [List.map_map, List.map_map] at h
    have e1 : (List.map ((fun k : L2.Key => match k with | .inl i => i | .inr _ => 0) ∘ fun i => (.inl i : L2.Key)) is) = is := by
      show List.map (fun i => i) is = is
      exact List.map_id' is
    rw [e1] at h
    exact h.symm
  rw [this, List.map_map]
  rfl
/-- the statement at the path, or the error's path -/
def spStatement (K : PySem.W.Frag) (hR hNP : Addr) : Sp := fun vs H Q E => ∃ r v d vp dp, vs = [.ref r, vp] ∧ RoutD K H hR r v d ∧ Rp K H vp dp ∧ (∀ q ∈ rowsD d, dp = pathD q.1 → ∀ u H', Same H H' → Rp K H' u q.2.1 → Q u H') ∧
  ((∀ q ∈ rowsD d, dp ≠ pathD q.1) → ∀ e H', Same H H' → H' e = some (.xd [("what", vp)]) → E (.ref hNP) (some e) H')
section
variable {P : Program} {w : World} {K : PySem.W.Frag} {mg : Str → Option Value} {base : Heap} {hR hNP f1 : Addr}
theorem scRStatement : FnScope ["self", "path"] ["self", "path"] (defScope sRStatement) := ⟨rfl, rfl, rfl, by decide +kernel, rfl, by decide +kernel, by decide +kernel⟩
theorem ok_statementAt {f fI : Addr} {fd fd1 fdI : FuncData} (F : Fun K "statement" "Routine.statement" sRStatement f fd) (C : RCls K hR) (TE : ErrC K f1 hNP) (t1 : PySem.W.typeIn K (.ref f1) = some (.type "function")) (FE : EInit K f1 fd1) (mB : mg "NoPath" = some (.ref hNP))
    (GI : FnOk P w K mg base CX0 2 fI fdI ["value"] (spB K pathFormB)) (kI : PySem.W.keepIn K (.ref fI) = true) (bI : Binds K fdI ["value"] []) (mI : mg "is_path" = some (.ref fI)) : FnOk P w K mg base (L2.CX P w) 3 f fd ["self", "path"] (spStatement K hR hNP) := by
  refine F.okX scRStatement (fun vs H Q E h => ?_) (fun cdv A outer s H vs Q E hr h => ?_)
  · obtain ⟨r, v, d, vp, dp, rfl, _⟩ := h
    rfl
  · obtain ⟨r, v, d, vp, dp, rfl, R, rp, kq, ke⟩ := h
    have hr2 : Room 2 _ := hr.mono (by decide)
    have hu := hu_of hr2
    have GE : FnOk P w K mg base CX0 1 f1 fd1 ["self", "what"] (spEInitN K f1) := ok_einitN FE
    have bE := b_einit2 FE
    refine ⟨_, pss_cons (ps_if (pw_or (pt_not (pt_val (pe_call GI hr (by rfl) mI kI bI .nil pass0 (pa_cons (pv 1) pa_nil)))) (pw_or1 (pt_cmp (pc_dnotin hu (pv 1) (pe_fld (pv 0) rfl))))).pt (pss_one (ps_raiseE rfl (takes_of rfl rfl rfl rfl) TE t1 GE hr2 bE mB (pv 1))) pss_nil)
      (pss_one (ps_ret (pe_dget hu (pe_fld (pv 0) rfl) (pv 1) (fun _ _ => rfl)))), ?_⟩
    have row : ∀ q ∈ rowsD d, dp = pathD q.1 → pathFormB dp = true := fun q hq e => by
      subst e
      have := lay_short 12 d [] none none q hq
      show (decide ((q.1.map _).length ≤ 23) && ((q.1.map _).map intB).all id) = true
      rw [List.length_map, decide_eq_true (show q.1.length ≤ 23 by simp only [List.length_nil] at this; omega), Bool.true_and, List.map_map, List.all_map, List.all_eq_true]
      exact fun _ _ => rfl
    refine ⟨_, rfl, vp, dp, rfl, rp, fun H1 s1 => ⟨_, rfl, ?_⟩⟩
    cases hf : pathFormB dp with
    | false =>
      refine iteT ?_
      exact ⟨_, rfl, mko_err TE fun e ne => ke (fun q hq z => by rw [row q hq z] at hf; cases hf) e _ (s1.trans (Same.new ne)) upd_same⟩
    | true =>
      refine iteF ?_
      obtain ⟨l, rfl⟩ : ∃ l, dp = .tup l := by
        cases dp with
        | tup l => exact ⟨l, rfl⟩
        | _ => cases hf
      obtain ⟨p, xs, rfl, hp, ra⟩ := rp.tup_inv
      obtain ⟨is, e1, e2⟩ := ints_inv ra (Bool.and_eq_true_iff.mp hf).2
      subst e1
      subst e2
      have R1 := R.keep s1
      obtain ⟨dx, D1, D2, N1, N2, k1, k2, e, d1, t1, d2, t2, _⟩ := R1.ex
      have hp1 := s1 _ _ hp
      have dg := DGet.t d1 hp1
      refine ⟨_, rfl, _, rfl, r, hR, dx, _, _, rfl, e, C.cl, C.n2, rfl, D1, _, rfl, dg, ?_⟩
      by_cases c : ∃ q ∈ rowsD d, DT.tup (is.map DT.int) = pathD q.1
      · obtain ⟨q, hq, eq⟩ := c
        obtain ⟨q', u, m, eq', ev, z⟩ := t1.get q hq
        obtain rfl := lay_one hq m eq'
        have ek : keyP q'.1 = is.map fun i => (.inl i : L2.Key) := by
          have h := congrArg (fun d : DT => match d with | .tup l => l.map (fun x : DT => match x with | .int i => (.inl i : L2.Key) | _ => .inl 0) | _ => []) eq
          have h : List.map _ (List.map _ is) = List.map _ (List.map _ q'.1) := h
          rw [List.map_map, List.map_map] at h
          exact h.symm
        rw [ek] at ev
        rw [ev] at dg ⊢
        refine ⟨_, rfl, iteF ?_⟩
        exact ⟨_, rfl, r, hR, dx, _, _, rfl, e, C.cl, C.n2, rfl, _, rfl, D1, u, rfl, dg, kq q' hq eq u H1 s1 z⟩
      · have nv : valV k1 (is.map fun i => (.inl i : L2.Key)) = none := TabAt.none' t1 fun q hq z => c ⟨q, hq, key_path z⟩
        rw [nv]
        refine ⟨_, rfl, iteT ?_⟩
        exact ⟨_, rfl, mko_err TE fun e ne => ke (fun q hq z => c ⟨q, hq, z⟩) e _ (s1.trans (Same.new ne)) upd_same⟩
end
end Oh
namespace Oh
open PySem PySem.Spec PyProof.Rows L2 PpSet
abbrev sRPaths : Stmt := inClass (top 47) 4
/-- the list of the paths of all statements -/
def spPaths (K : PySem.W.Frag) (hR : Addr) : Sp := fun vs H Q _ => ∃ r v d, vs = [.ref r] ∧ RoutD K H hR r v d ∧ ∀ (bs : List Addr) (p : Addr), Paired (fun b q => H b = some (.tup (pathV q.1))) bs (rowsD d) → H p = none → Q (.ref p) (upd H p (.lst (bs.map V.ref)))
theorem keys_rows {Z : Hp → V → LRow → Prop} {H : Hp} : ∀ {kvs : List (List L2.Key × V)} {rows : List LRow} {bs : List Addr}, TabAt Z H kvs rows → IsKeys H kvs bs → Paired (fun b q => H b = some (.tup (pathV q.1))) bs rows
  | _, _, _, .nil, .nil => .nil
  | _, _, _, .cons h t, .cons g u => .cons (by rw [← pathV_key, ← h.1]; exact g) (keys_rows t u)
section
variable {P : Program} {w : World} {K : PySem.W.Frag} {mg : Str → Option Value} {base : Heap} {hR : Addr}
theorem scRPaths : FnScope ["self"] ["self"] (defScope sRPaths) := ⟨rfl, rfl, rfl, by decide +kernel, rfl, by decide +kernel, by decide +kernel⟩
theorem ok_paths {f : Addr} {fd : FuncData} (F : Fun K "paths" "Routine.paths" sRPaths f fd) (C : RCls K hR) (mL : mg "list" = none) : FnOk P w K mg base CX0 1 f fd ["self"] (spPaths K hR) := by
  refine F.ok scRPaths (fun vs H Q E h => ?_) (fun cdv A outer s H vs Q E hr h => ?_)
  · obtain ⟨r, v, d, rfl, _⟩ := h
    rfl
  · obtain ⟨r, v, d, rfl, R, k⟩ := h
    obtain ⟨dx, D1, D2, N1, N2, k1, k2, e, d1, t1, d2, t2, _⟩ := R.ex
    exact ⟨_, pss_one (ps_ret (pe_callTy (call_list_dT rfl) (by rfl) mL bb_list (pa_cons (pe_fld (pv 0) rfl) pa_nil))),
      ⟨_, rfl, r, hR, dx, _, _, rfl, e, C.cl, C.n2, rfl, D1, k1, rfl, .inl d1, fun l bs nl hk => k bs l (keys_rows t1 hk) nl⟩⟩
end
end Oh
namespace Oh
open PySem PySem.Spec PyProof.Rows L2 PpSet
/-! ### plain values -/
def plainB : Nat → DT → Bool
  | 0 => fun d => match d with
    | .tup _ => false
    | .oth => false
    | _ => true
  | n + 1 => fun d => match d with
    | .tup l => decide (l.length ≤ 1000) && l.all (plainB n)
    | .oth => false
    | _ => true
theorem plain_up : ∀ {n m : Nat} {d : DT}, n ≤ m → plainB n d = true → plainB m d = true
  | n, m, .non, _, _ => by cases m <;> rfl
  | n, m, .bl _, _, _ => by cases m <;> rfl
  | n, m, .int _, _, _ => by cases m <;> rfl
  | n, m, .str _, _, _ => by cases m <;> rfl
  | n, m, .oth, _, h => by cases n <;> cases h
  | 0, _, .tup _, _, h => by cases h
  | n + 1, 0, .tup _, h, _ => absurd h (by omega)
  | n + 1, m + 1, .tup l, h, z => by
    have z : (decide (l.length ≤ 1000) && l.all (plainB n)) = true := z
    obtain ⟨z1, z2⟩ := Bool.and_eq_true_iff.mp z
    show (decide (l.length ≤ 1000) && l.all (plainB m)) = true
    exact Bool.and_eq_true_iff.mpr ⟨z1, List.all_eq_true.mpr fun x hx => plain_up (by omega) (List.all_eq_true.mp z2 x hx)⟩
theorem plain_tup {n : Nat} {l : List DT} (hl : l.length ≤ 1000) (h : ∀ x ∈ l, plainB n x = true) : plainB (n + 1) (.tup l) = true := Bool.and_eq_true_iff.mpr ⟨decide_eq_true hl, List.all_eq_true.mpr h⟩
theorem plain_name {d : DT} (h : nameB d = true) {n : Nat} : plainB n d = true := by
  cases d with
  | str s => cases n <;> rfl
  | _ => cases h
theorem plain_digit {d : DT} (h : digitB d = true) {n : Nat} : plainB n d = true := by
  cases d with
  | int s => cases n <;> rfl
  | _ => cases h
theorem args_of {d : DT} {h : Str} {l : List DT} (e : d = .tup (.str h :: l)) {x : DT} (m : x ∈ l) : ∃ i, 1 ≤ i ∧ i < lenB d ∧ x = argB d i := by
  subst e
  obtain ⟨i, hi, rfl⟩ := List.mem_iff_getElem.mp m
  refine ⟨i + 1, by omega, ?_, ?_⟩
  · show i + 1 < (DT.str h :: l).length
    rw [List.length_cons]
    omega
  · show _ = (DT.str h :: l).getD (i + 1) .non
    rw [List.getD_eq_getElem?_getD, List.getElem?_cons_succ, List.getElem?_eq_getElem hi]
    rfl
theorem plain_expr : ∀ (n : Nat) (d : DT), exprB n d = true → plainB (n + 1) d = true
  | n, d, h => by
    cases hd : digitB d with
    | true => exact plain_digit hd
    | false =>
      rcases expr_inv h hd with ⟨h1, h2, h3⟩ | ⟨n', p, rfl, h1, h2, h3, h4⟩
      · obtain ⟨l, el⟩ := head_inv (d := d) (by rw [h1]; decide)
        have ll := fun {x} => args_of el (x := x)
        have le := len_of el
        rw [el]
        refine plain_tup (by omega) fun x hx => ?_
        rcases List.mem_cons.mp hx with rfl | hx
        · cases n <;> rfl
        · obtain ⟨i, i1, i2, rfl⟩ := ll hx
          obtain rfl : i = 1 := by omega
          exact plain_name h3
      · obtain ⟨l, el⟩ := head_inv (d := d) (parts_some h2).2.1
        have et : tailB d = l := by rw [el]; rfl
        rw [et] at h4
        have le := len_of el
        have p2 := (parts_some h2).2.2
        rw [el]
        refine plain_tup (by omega) fun x hx => ?_
        rcases List.mem_cons.mp hx with rfl | hx
        · rfl
        · exact plain_expr n' x (h4 x hx)
theorem plain_stmt {m : Nat} {d : DT} (h : stmtB d = true) (hb : ∀ b ∈ blocksB d, plainB m b = true) : plainB (m + 9) d = true := by
  obtain ⟨g, l, hk, hg, el⟩ := stmt_inv h
  have ll := fun {x} => args_of el (x := x)
  have le := len_of el
  have top : ∀ {k : Nat}, lenB d ≤ 4 → (∀ x ∈ l, plainB k x = true) → plainB (k + 1) d = true := fun {k} z4 z => by
    rw [el]
    refine plain_tup (by omega) fun x hx => ?_
    rcases List.mem_cons.mp hx with rfl | hx
    · cases k <;> rfl
    · exact z x hx
  have fin : lenB d ≤ 4 → (∀ x ∈ l, plainB (m + 8) x = true) → plainB (m + 9) d = true := fun z4 z => top z4 z
  unfold kindB at hk
  by_cases c1 : headB d = "set" ∨ headB d = "tell"
  · obtain ⟨z1, z2, z3⟩ := tell_len h c1
    refine fin (by omega) fun x hx => ?_
    obtain ⟨i, i1, i2, rfl⟩ := ll hx
    rcases (show i = 1 ∨ i = 2 by omega) with rfl | rfl
    · exact plain_name z2
    · exact plain_up (by omega) (plain_expr 4 _ z3)
  by_cases c2 : headB d = "hear"
  · obtain ⟨z1, z2, z3⟩ := hear_len h c2
    refine fin (by omega) fun x hx => ?_
    obtain ⟨i, i1, i2, rfl⟩ := ll hx
    rcases (show i = 1 ∨ i = 2 by omega) with rfl | rfl
    · exact plain_name z2
    · exact plain_name z3
  by_cases c3 : headB d = "wait"
  · obtain ⟨z1, z2, z3, _⟩ := wait_len h c3
    obtain ⟨rows, er, lr4⟩ := choice_inv z2
    have hbl : blocksB d = rows.map fun r => argB r 2 := by unfold blocksB; rw [if_neg (by rw [c3]; decide), if_neg (by rw [c3]; decide), if_neg (by rw [c3]; decide), if_pos c3, er]; rfl
    rw [er] at z3
    rw [hbl] at hb
    refine fin (by omega) fun x hx => ?_
    obtain ⟨i, i1, i2, rfl⟩ := ll hx
    obtain rfl : i = 1 := by omega
    rw [er]
    refine plain_up (n := m + 2) (by omega) (plain_tup (by omega) fun r hr => ?_)
    have zr := z3 r hr
    obtain ⟨lr, e3, l3⟩ := row_len zr
    have zn := row_names zr
    have zb := hb _ (List.mem_map_of_mem (f := fun r => argB r 2) hr)
    subst e3
    match lr, l3 with
    | [x0, x1, x2], _ =>
      refine plain_tup (by show 3 ≤ 1000; decide) fun x hx => ?_
      simp only [List.mem_cons, List.not_mem_nil, or_false] at hx
      rcases hx with rfl | rfl | rfl
      · exact plain_name zn.1
      · exact plain_name zn.2
      · exact zb
  by_cases c4 : headB d = "open"
  · obtain ⟨z1, z2, _⟩ := open_len h c4
    obtain ⟨bs, er, lb4⟩ := choice_inv z2
    have hbl : blocksB d = bs := by unfold blocksB; rw [if_neg (by rw [c4]; decide), if_neg (by rw [c4]; decide), if_pos c4, er]; rfl
    rw [hbl] at hb
    refine fin (by omega) fun x hx => ?_
    obtain ⟨i, i1, i2, rfl⟩ := ll hx
    obtain rfl : i = 1 := by omega
    rw [er]
    exact plain_up (n := m + 1) (by omega) (plain_tup (by omega) hb)
  by_cases c5 : headB d = "if"
  · obtain ⟨z1, _, _, z4⟩ := if_len h c5
    have hbl : blocksB d = [argB d 2, argB d 3] := by unfold blocksB; rw [if_pos c5]
    rw [hbl] at hb
    refine fin (by omega) fun x hx => ?_
    obtain ⟨i, i1, i2, rfl⟩ := ll hx
    rcases (show i = 1 ∨ i = 2 ∨ i = 3 by omega) with rfl | rfl | rfl
    · exact plain_up (by omega) (plain_expr 4 _ z4)
    · exact plain_up (by omega) (hb _ (by simp))
    · exact plain_up (by omega) (hb _ (by simp))
  by_cases c6 : headB d = "repeat"
  · obtain ⟨z1, _⟩ := repeat_len h c6
    have hbl : blocksB d = [argB d 1] := by unfold blocksB; rw [if_neg c5, if_pos c6]
    rw [hbl] at hb
    refine fin (by omega) fun x hx => ?_
    obtain ⟨i, i1, i2, rfl⟩ := ll hx
    obtain rfl : i = 1 := by omega
    exact plain_up (by omega) (hb _ (by simp))
  · rw [if_neg c1, if_neg c2, if_neg c3, if_neg c4, if_neg c5, if_neg c6] at hk
    split at hk
    · cases hk
      have z1 : lenB d = 1 := beq_iff_eq.mp hg
      refine fin (by omega) fun x hx => ?_
      obtain ⟨i, i1, i2, rfl⟩ := ll hx
      omega
    · cases hk
theorem plain_good : ∀ (f : Nat) (d : DT), goodR f d = true → plainB (10 * f) d = true
  | 0, d, h => by cases h
  | f + 1, d, h => by
    obtain ⟨l, rfl, l12, z⟩ := good_inv h
    refine plain_up (n := 10 * f + 9 + 1) (by omega) (plain_tup (by omega) fun x hx => ?_)
    exact plain_stmt (z x hx).1 fun b hb => plain_good f b ((z x hx).2 b hb)
theorem plain_path {w : List Nat} (h : w.length ≤ 1000) : plainB 1 (pathD w) = true := plain_tup (by rw [List.length_map]; exact h) fun x hx => by
  obtain ⟨n, _, rfl⟩ := List.mem_map.mp hx
  rfl
/-! ### few names -/
theorem allS_list (l : List Str) : ∃ m : List Str, m.Nodup ∧ m.length = (allS l).2 ∧ ∀ k ∈ m, k ∈ l := by
  suffices h : ∀ (l : List Str) (s : TSt) (m : List Str), m.Nodup → m.length = s.2 → (∀ k, s.1 k = decide (k ∈ m)) → ∃ m' : List Str, m'.Nodup ∧ m'.length = (l.foldl addS s).2 ∧ ∀ k ∈ m', k ∈ m ∨ k ∈ l by
    obtain ⟨m', a, b, d⟩ := h l (fun _ => false, 0) [] .nil rfl (fun k => by simp)
    exact ⟨m', a, b, fun k hk => (d k hk).resolve_left (by simp)⟩
  intro l
  induction l with
  | nil => exact fun s m a b c => ⟨m, a, b, fun k hk => .inl hk⟩
  | cons x r ih =>
    intro s m a b c
    rw [List.foldl_cons]
    have cx := c x
    by_cases hx : x ∈ m
    · rw [decide_eq_true hx] at cx
      obtain ⟨m', a', b', d'⟩ := ih (addS s x) m a (by show _ = if s.1 x = true then s.2 else s.2 + 1; rw [if_pos cx]; exact b) (fun k => by
        show (s.1 k || decide (k = x)) = _
        rw [c k]
        by_cases e : k = x
        · subst e
          simp [hx]
        · simp [e])
      exact ⟨m', a', b', fun k hk => (d' k hk).imp id (List.mem_cons_of_mem _)⟩
    · rw [decide_eq_false hx] at cx
      obtain ⟨m', a', b', d'⟩ := ih (addS s x) (x :: m) (List.nodup_cons.mpr ⟨hx, a⟩) (by show _ = if s.1 x = true then s.2 else s.2 + 1; rw [if_neg (by rw [cx]; decide), List.length_cons, b]) (fun k => by
        show (s.1 k || decide (k = x)) = _
        rw [c k]
        by_cases e : k = x
        · subst e
          simp
        · simp [e])
      refine ⟨m', a', b', fun k hk => ?_⟩
      rcases d' k hk with z | z
      · rcases List.mem_cons.mp z with rfl | z
        · exact .inr List.mem_cons_self
        · exact .inl z
      · exact .inr (List.mem_cons_of_mem _ z)
theorem allS_few {l S : List Str} (h : ∀ k ∈ l, k ∈ S) : (allS l).2 ≤ S.length := by
  obtain ⟨m, a, b, d⟩ := allS_list l
  rw [← b]
  exact a.length_le_of_subset fun k hk => h k (d k hk)
/-- of all statements of a block -/
def allR (p : DT → Prop) : Nat → DT → Prop
  | 0 => fun _ => True
  | f + 1 => fun b => ∀ d ∈ listB b, p d ∧ ∀ c ∈ blocksB d, allR p f c
theorem allR_b {p : DT → Prop} {rec : DT → List Nat → OPath → OPath → List LRow} {q : DT → Prop} (h : ∀ d w a b, q d → ∀ r ∈ rec d w a b, p r.2.1) {here : List Nat} {fol out : OPath} {rp : Bool} : ∀ (bs : List DT) (j : Nat), (∀ c ∈ bs, q c) → ∀ r ∈ layBlocks rec here fol out rp bs j, p r.2.1
  | [], _, _, r, hr => by cases hr
  | b :: bs, j, hb, r, hr => by
    unfold layBlocks at hr
    rcases List.mem_append.mp hr with hr | hr
    · cases rp
      · rw [if_neg (by decide)] at hr; exact h _ _ _ _ (hb b List.mem_cons_self) r hr
      · rw [if_pos rfl] at hr; exact h _ _ _ _ (hb b List.mem_cons_self) r hr
    · exact allR_b h bs (j + 1) (fun c hc => hb c (List.mem_cons_of_mem _ hc)) r hr
theorem allR_i {p : DT → Prop} {rec : DT → List Nat → OPath → OPath → List LRow} {q : DT → Prop} (h : ∀ d w a b, q d → ∀ r ∈ rec d w a b, p r.2.1) {m : Nat} {path : List Nat} {behind out : OPath} : ∀ (ds : List DT) (i : Nat), (∀ d ∈ ds, p d ∧ ∀ c ∈ blocksB d, q c) → ∀ r ∈ layItems rec m path behind out ds i, p r.2.1
  | [], _, _, r, hr => by cases hr
  | d :: ds, i, hd, r, hr => by
    unfold layItems at hr
    have h1 := hd d List.mem_cons_self
    rcases List.mem_cons.mp hr with rfl | hr
    · exact h1.1
    rcases List.mem_append.mp hr with hr | hr
    · exact allR_b h _ _ h1.2 r hr
    · exact allR_i h ds (i + 1) (fun c hc => hd c (List.mem_cons_of_mem _ hc)) r hr
theorem allR_rows {p : DT → Prop} : ∀ (f : Nat) (d : DT) (w : List Nat) (a b : OPath), allR p f d → ∀ r ∈ layR f d w a b, p r.2.1
  | 0, _, _, _, _, _, r, hr => by cases hr
  | f + 1, d, w, a, b, h, r, hr => allR_i (fun d w a b z => allR_rows f d w a b z) (listB d) 0 h r hr
/-- a statement's names and ports are among these -/
def NP (S1 S2 : List Str) (d : DT) : Prop := (∀ k ∈ namesB d, k ∈ S1) ∧ ∀ k ∈ portsB d, k ∈ S2
theorem np_names {S1 S2 : List Str} {d : DT} (h : allR (NP S1 S2) 12 d) : (allS (allT namesB (rowsD d))).2 ≤ S1.length := allS_few fun k hk => by
  obtain ⟨l, ml, kl⟩ := List.mem_flatten.mp hk
  obtain ⟨r, mr, rfl⟩ := List.mem_map.mp ml
  exact (allR_rows 12 d [] none none h r mr).1 k kl
theorem np_ports {S1 S2 : List Str} {d : DT} (h : allR (NP S1 S2) 12 d) : (allS (allT portsB (rowsD d))).2 ≤ S2.length := allS_few fun k hk => by
  obtain ⟨l, ml, kl⟩ := List.mem_flatten.mp hk
  obtain ⟨r, mr, rfl⟩ := List.mem_map.mp ml
  exact (allR_rows 12 d [] none none h r mr).2 k kl
/-! ### the first wrong item -/
theorem goBlocks_ok {rec : DT → List Nat → Bool → Option (List Nat)} {here : List Nat} {rep : Bool} : ∀ (bs r : List DT) (j : Nat), (∀ b ∈ bs, ∀ path, rec b path rep = none) → goBlocks rec here rep (bs ++ r) j = goBlocks rec here rep r (j + bs.length)
  | [], r, j, _ => rfl
  | b :: bs, r, j, h => by
    have e : goBlocks rec here rep (b :: (bs ++ r)) j = goBlocks rec here rep (bs ++ r) (j + 1) := by
      conv => lhs; unfold goBlocks
      rw [h b List.mem_cons_self]
    show goBlocks rec here rep (b :: (bs ++ r)) j = _
    rw [e, goBlocks_ok bs r (j + 1) fun c hc => h c (List.mem_cons_of_mem _ hc), List.length_cons, show j + 1 + bs.length = j + (bs.length + 1) by omega]
theorem goBlocks_fine {rec : DT → List Nat → Bool → Option (List Nat)} {here : List Nat} {rep : Bool} {bs : List DT} {j : Nat} (h : ∀ b ∈ bs, ∀ path, rec b path rep = none) : goBlocks rec here rep bs j = none := by
  have z := goBlocks_ok (here := here) bs [] j h
  rw [List.append_nil] at z
  exact z
/-- an item as it should be, with all that is in it -/
structure Fine (f n : Nat) (inr : Bool) (d : DT) : Prop where
  one : wrongB f n inr d = false
  inn : ∀ b ∈ blocksB d, ∀ path, firstR f b path (inr || decide (headB d = "repeat")) = none
theorem goItems_ok {f n : Nat} {path : List Nat} {inr : Bool} : ∀ (l r : List DT) (i : Nat), (∀ d ∈ l, Fine f n inr d) → goItems (firstR f) f n path inr (l ++ r) i = goItems (firstR f) f n path inr r (i + l.length)
  | [], r, i, _ => rfl
  | d :: l, r, i, h => by
    have h1 := h d List.mem_cons_self
    have e : goItems (firstR f) f n path inr (d :: (l ++ r)) i = goItems (firstR f) f n path inr (l ++ r) (i + 1) := by
      conv => lhs; unfold goItems
      rw [if_neg (by rw [h1.one]; decide), goBlocks_fine h1.inn]
    show goItems (firstR f) f n path inr (d :: (l ++ r)) i = _
    rw [e, goItems_ok l r (i + 1) fun c hc => h c (List.mem_cons_of_mem _ hc), List.length_cons, show i + 1 + l.length = i + (l.length + 1) by omega]
theorem first_fine {f : Nat} {l : List DT} {inr : Bool} (h : ∀ d ∈ l, Fine f (12 - f) inr d) (path : List Nat) : firstR (f + 1) (.tup l) path inr = none := by
  show goItems (firstR f) f (12 - f) path inr l 0 = none
  have z := goItems_ok (path := path) l [] 0 h
  rw [List.append_nil] at z
  exact z
theorem first_wrong1 {f : Nat} {l r : List DT} {d : DT} {inr : Bool} (h : ∀ d ∈ l, Fine f (12 - f) inr d) (w : wrongB f (12 - f) inr d = true) (path : List Nat) : firstR (f + 1) (.tup (l ++ d :: r)) path inr = some (path ++ [l.length]) := by
  show goItems (firstR f) f (12 - f) path inr (l ++ d :: r) 0 = _
  rw [goItems_ok l (d :: r) 0 h]
  unfold goItems
  rw [if_pos w, Nat.zero_add]
theorem wrong_not {f n : Nat} {inr : Bool} {d : DT} (h : stmtB d = false) : wrongB f n inr d = true := by
  unfold wrongB
  rw [if_pos (by unfold soundB; rw [h]; rfl)]
/-- a statement without blocks, no leave -/
structure Simp (d : DT) : Prop where
  st : stmtB d = true
  bl : blocksB d = []
  h1 : headB d ≠ "leave"
  h2 : headB d ≠ "repeat"
theorem Simp.sound {d : DT} (h : Simp d) (n : Nat) : soundB n d = true := by
  unfold soundB
  rw [h.st, h.bl]
  simp
theorem Simp.fine {d : DT} (h : Simp d) (f n : Nat) (inr : Bool) : Fine f n inr d := ⟨by
  unfold wrongB
  rw [if_neg (by rw [h.sound n]; decide), if_neg h.h1, decide_eq_false h.h2]
  rfl, fun b hb => by rw [h.bl] at hb; cases hb⟩
theorem Simp.all {d : DT} (h : Simp d) {p : DT → Prop} {f : Nat} (z : p d) : p d ∧ ∀ c ∈ blocksB d, allR p f c := ⟨z, fun c hc => by rw [h.bl] at hc; cases hc⟩
theorem Simp.count {d : DT} (h : Simp d) (f : Nat) : 1 + ((blocksB d).map (countR f)).sum = 1 := by rw [h.bl]; rfl
theorem head_tup (h : Str) (l : List DT) : headB (.tup (.str h :: l)) = h := rfl
theorem stmt_of {d : DT} {g : DT → Bool} (k : kindB (headB d) = some g) (z : g d = true) : stmtB d = true := by
  unfold stmtB
  rw [k]
  exact z
theorem kb_set : kindB "set" = some setTellB := by unfold kindB; rw [if_pos (Or.inl rfl)]
theorem kb_tell : kindB "tell" = some setTellB := by unfold kindB; rw [if_pos (Or.inr rfl)]
theorem kb_hear : kindB "hear" = some hearB := by unfold kindB; rw [if_neg (by decide), if_pos rfl]
theorem kb_wait : kindB "wait" = some waitB := by unfold kindB; rw [if_neg (by decide), if_neg (by decide), if_pos rfl]
theorem kb_open : kindB "open" = some openB := by unfold kindB; rw [if_neg (by decide), if_neg (by decide), if_neg (by decide), if_pos rfl]
theorem kb_if : kindB "if" = some ifB := by unfold kindB; rw [if_neg (by decide), if_neg (by decide), if_neg (by decide), if_neg (by decide), if_pos rfl]
theorem kb_repeat : kindB "repeat" = some repeatB := by unfold kindB; rw [if_neg (by decide), if_neg (by decide), if_neg (by decide), if_neg (by decide), if_neg (by decide), if_pos rfl]
theorem kb_word {h : Str} (e : h = "leave" ∨ h = "home" ∨ h = "fail") : kindB h = some wordB := by
  unfold kindB
  rcases e with rfl | rfl | rfl <;> rw [if_neg (by decide), if_neg (by decide), if_neg (by decide), if_neg (by decide), if_neg (by decide), if_neg (by decide), if_pos (by decide)]
theorem bl_none {d : DT} (h1 : headB d ≠ "if") (h2 : headB d ≠ "repeat") (h3 : headB d ≠ "open") (h4 : headB d ≠ "wait") : blocksB d = [] := by
  unfold blocksB
  rw [if_neg h1, if_neg h2, if_neg h3, if_neg h4]
theorem eq_head {h g : Str} {l : List DT} (n : h = g) : headB (.tup (.str h :: l)) = g := n
theorem ne_head {h g : Str} {l : List DT} (n : h ≠ g) : ¬ headB (.tup (.str h :: l)) = g := n
abbrev setD (n : Str) (e : DT) : DT := .tup [.str "set", .str n, e]
abbrev tellD (n : Str) (e : DT) : DT := .tup [.str "tell", .str n, e]
abbrev hearD (p n : Str) : DT := .tup [.str "hear", .str p, .str n]
abbrev homeD : DT := .tup [.str "home"]
abbrev failD : DT := .tup [.str "fail"]
abbrev leaveD : DT := .tup [.str "leave"]
abbrev repD (b : DT) : DT := .tup [.str "repeat", b]
abbrev ifD (e b c : DT) : DT := .tup [.str "if", e, b, c]
abbrev openD (bs : List DT) : DT := .tup [.str "open", .tup bs]
abbrev waitD (rs : List DT) : DT := .tup [.str "wait", .tup rs]
abbrev nameD (n : Str) : DT := .tup [.str "name", .str n]
theorem simp_set {n : Str} {e : DT} (h1 : nameB (.str n) = true) (h2 : exprB 4 e = true) : Simp (setD n e) :=
  ⟨stmt_of kb_set (by show (true && (nameB (.str n) && exprB 4 e)) = true; rw [h1, h2]; rfl), bl_none (ne_head (by decide)) (ne_head (by decide)) (ne_head (by decide)) (ne_head (by decide)), ne_head (by decide), ne_head (by decide)⟩
theorem simp_tell {n : Str} {e : DT} (h1 : nameB (.str n) = true) (h2 : exprB 4 e = true) : Simp (tellD n e) :=
  ⟨stmt_of kb_tell (by show (true && (nameB (.str n) && exprB 4 e)) = true; rw [h1, h2]; rfl), bl_none (ne_head (by decide)) (ne_head (by decide)) (ne_head (by decide)) (ne_head (by decide)), ne_head (by decide), ne_head (by decide)⟩
theorem simp_hear {p n : Str} (h1 : nameB (.str p) = true) (h2 : nameB (.str n) = true) : Simp (hearD p n) :=
  ⟨stmt_of kb_hear (by show (true && (nameB (.str p) && nameB (.str n))) = true; rw [h1, h2]; rfl), bl_none (ne_head (by decide)) (ne_head (by decide)) (ne_head (by decide)) (ne_head (by decide)), ne_head (by decide), ne_head (by decide)⟩
theorem simp_home : Simp homeD := ⟨stmt_of (kb_word (.inr (.inl rfl))) rfl, bl_none (ne_head (by decide)) (ne_head (by decide)) (ne_head (by decide)) (ne_head (by decide)), ne_head (by decide), ne_head (by decide)⟩
theorem simp_fail : Simp failD := ⟨stmt_of (kb_word (.inr (.inr rfl))) rfl, bl_none (ne_head (by decide)) (ne_head (by decide)) (ne_head (by decide)) (ne_head (by decide)), ne_head (by decide), ne_head (by decide)⟩
theorem blocks_rep (b : DT) : blocksB (repD b) = [b] := by unfold blocksB; rw [if_neg (ne_head (by decide)), if_pos (eq_head rfl)]; rfl
theorem blocks_if (e b c : DT) : blocksB (ifD e b c) = [b, c] := by unfold blocksB; rw [if_pos (eq_head rfl)]; rfl
theorem blocks_open (bs : List DT) : blocksB (openD bs) = bs := by unfold blocksB; rw [if_neg (ne_head (by decide)), if_neg (ne_head (by decide)), if_pos (eq_head rfl)]; rfl
theorem blocks_wait (rs : List DT) : blocksB (waitD rs) = rs.map fun r => argB r 2 := by unfold blocksB; rw [if_neg (ne_head (by decide)), if_neg (ne_head (by decide)), if_neg (ne_head (by decide)), if_pos (eq_head rfl)]; rfl
theorem stmt_rep {b : DT} : stmtB (repD b) = blockB b := by
  unfold stmtB
  rw [show headB (repD b) = "repeat" from rfl, kb_repeat]
  show (true && blockB b) = _
  rw [Bool.true_and]
theorem stmt_if {e b c : DT} : stmtB (ifD e b c) = (exprB 4 e && (blockB b && blockB c)) := by
  unfold stmtB
  rw [show headB (ifD e b c) = "if" from rfl, kb_if]
  show (true && (exprB 4 e && (blockB b && blockB c))) = _
  rw [Bool.true_and]
theorem stmt_open {bs : List DT} : stmtB (openD bs) = (choiceB (.tup bs) && (bs.map blockB).all id) := by
  unfold stmtB
  rw [show headB (openD bs) = "open" from rfl, kb_open]
  show (true && (choiceB (.tup bs) && (bs.map blockB).all id)) = _
  rw [Bool.true_and]
theorem stmt_wait {rs : List DT} : stmtB (waitD rs) = (choiceB (.tup rs) && ((rs.map rowB).all id && decide (rs.map portB).Nodup)) := by
  unfold stmtB
  rw [show headB (waitD rs) = "wait" from rfl, kb_wait]
  show (true && (choiceB (.tup rs) && ((rs.map rowB).all id && decide (rs.map portB).Nodup))) = _
  rw [Bool.true_and]
theorem block_tup (l : List DT) : blockB (.tup l) = decide (l.length ≤ 12) := rfl
/-- a block that deals at once is not quiet -/
theorem quiet_tell {f : Nat} {d : DT} {r : List DT} (h : Simp d) (t : headB d = "tell" ∨ headB d = "hear") : (quietR (f + 1) (.tup (d :: r))).1 = false := by
  have e : quietOf (quietR f) (12 - f) d = (false, false) := by
    unfold quietOf
    rw [if_neg (by rw [h.sound]; decide)]
    rcases t with t | t <;> rw [t] <;> rw [if_neg (by decide), if_neg (by decide), if_neg (by decide), if_neg (by decide)]
  show (quietL (quietOf (quietR f) (12 - f)) (d :: r) false).1 = false
  unfold quietL
  rw [e]
  rfl
/-- an item with blocks that is as it should be, but for what is in it -/
theorem wrong_rep {f n : Nat} {inr : Bool} {b : DT} (hn : n < 12) (hb : blockB b = true) (q : (quietR f b).1 = false) : wrongB f n inr (repD b) = false := by
  unfold wrongB
  rw [if_neg (by unfold soundB; rw [stmt_rep, hb, decide_eq_true hn]; simp), if_neg (ne_head (by decide)), show argB (repD b) 1 = b from rfl, q, Bool.and_false]
theorem wrong_oth {f n : Nat} {inr : Bool} {d : DT} (hn : n < 12) (hs : stmtB d = true) (h1 : headB d ≠ "leave") (h2 : headB d ≠ "repeat") : wrongB f n inr d = false := by
  unfold wrongB
  rw [if_neg (by unfold soundB; rw [hs, decide_eq_true hn]; simp), if_neg h1, decide_eq_false h2, Bool.false_and]
theorem wrong_deep {f : Nat} {inr : Bool} {d : DT} (hs : (blocksB d).length ≠ 0) : wrongB f 12 inr d = true := by
  unfold wrongB
  rw [if_pos (by unfold soundB; rw [decide_eq_false (by decide), beq_eq_false_iff_ne.mpr hs]; simp)]
/-! ### what is due -/
theorem due_no {d : DT} (hb : blockB d = false) : dueB d = some (some []) := by unfold dueB; rw [if_pos hb]
theorem due_path {d : DT} {w : List Nat} (hb : blockB d = true) (h : firstR 12 d [] false = some w) : dueB d = some (some w) := by
  unfold dueB
  rw [if_neg (by rw [hb]; decide), show firstB 11 d [] false = firstR 12 d [] false from rfl, h]
theorem due_let {d : DT} (hb : blockB d = true) (h : firstR 12 d [] false = none) (c : countR 12 d ≤ 6000) : dueB d = none := by
  unfold dueB
  rw [if_neg (by rw [hb]; decide), show firstB 11 d [] false = firstR 12 d [] false from rfl, h]
  exact if_neg (by show ¬ countR 12 d > 6000; omega)
theorem due_many {d : DT} (hb : blockB d = true) (h : firstR 12 d [] false = none) (c : countR 12 d > 6000) : dueB d = some none := by
  unfold dueB
  rw [if_neg (by rw [hb]; decide), show firstB 11 d [] false = firstR 12 d [] false from rfl, h]
  exact if_pos c
end Oh
namespace Oh
open PySem PySem.Spec PyProof.Rows L2 PpSet
/-- two values of one plain tree are alike -/
def spAlike (K : PySem.W.Frag) (n : Nat) : Sp := fun vs H Q _ => ∃ x y d, vs = [x, y] ∧ Rp K H x d ∧ Rp K H y d ∧ plainB n d = true ∧ ∀ H', Same H H' → Q (.bl true) H'
def spAlikeP (K : PySem.W.Frag) : Nat → Sp
  | 0 => fun _ _ _ _ => False
  | n + 1 => spAlike K n
section
variable {P : Program} {w : World} {K : PySem.W.Frag} {mg : Str → Option Value} {base : Heap}
abbrev nAl : List Str := ["_law_actual", "_law_due", "_law_k"]
theorem scAlike : FnScope nAl ["_law_actual", "_law_due"] (defScope sAlike) := ⟨rfl, rfl, rfl, by decide +kernel, rfl, by decide +kernel, by decide +kernel⟩
theorem alike_step {n : Nat} {f : Addr} {fd : FuncData} (F : Fun K "_law_alike" "_law_alike" sAlike f fd) (T : TxtI mg) (mA : mg "_law_alike" = some (.ref f)) (bA : Binds K fd ["_law_actual", "_law_due"] [])
    (GP : FnOk P w K mg base CX0 (n + 1) f fd ["_law_actual", "_law_due"] (spAlikeP K n)) : FnOk P w K mg base CX0 (n + 2) f fd ["_law_actual", "_law_due"] (spAlike K n) := by
  refine F.ok scAlike (fun vs H Q E h => ?_) (fun cdv A outer s H vs Q E hr h => ?_)
  · obtain ⟨x, y, d, rfl, _⟩ := h
    rfl
  · obtain ⟨x, y, d, rfl, rx, ry, hp, k⟩ := h
    have k0 := k H (Same.refl H)
    refine ⟨_, pss_cons (ps_if (pt_cmp (pc_isN (pv 1))) (pss_one (ps_ret (pe_cmp (pc_isN (pv 0))))) pss_nil)
      (pss_cons (ps_if (pt_val (pe_isi (pv 1) mono_var T.isi T.bool bb_bool)) (pss_one (ps_ret (pe_and (pe_isi (pv 0) mono_var T.isi T.bool bb_bool) (pe_one (pe_cmpR op_eq (pv 0) (pv 1) (nomark _)))))) pss_nil)
      (pss_cons (ps_if (pt_val (pe_isi (pv 1) mono_var T.isi T.int bb_int)) (pss_one (ps_ret (pe_and (pe_isi (pv 0) mono_var T.isi T.int bb_int) (pe_and (pe_not (pe_isi (pv 0) mono_var T.isi T.bool bb_bool)) (pe_one (pe_cmpR op_eq (pv 0) (pv 1) (nomark _))))))) pss_nil)
      (pss_cons (ps_if (pt_val (pe_isi (pv 1) mono_var T.isi T.str bb_str)) (pss_one (ps_ret (pe_and (pe_isi (pv 0) mono_var T.isi T.str bb_str) (pe_one (pe_cmpR op_eq (pv 0) (pv 1) (nomark _)))))) pss_nil)
      (pss_cons (ps_if (pw_and (pt_val (pe_isi (pv 1) mono_var T.isi T.tuple bb_tuple)) (pw_and1 (pt_not (pt_val (pe_isi (pv 0) mono_var T.isi T.tuple bb_tuple))))).pt (pss_one (ps_ret pe_bl)) pss_nil)
      (pss_cons (ps_if (pw_and (pt_val (pe_isi (pv 1) mono_var T.isi T.list bb_list)) (pw_and1 (pt_not (pt_val (pe_isi (pv 0) mono_var T.isi T.list bb_list))))).pt (pss_one (ps_ret pe_bl)) pss_nil)
      (pss_cons (ps_if (pt_cmpR op_ne (pe_callB call_len_seq (by rfl) T.len boot_len (pa_cons (pv 0) pa_nil)) (pe_callB call_len_seq (by rfl) T.len boot_len (pa_cons (pv 1) pa_nil)) (nomark _)) (pss_one (ps_ret pe_bl)) pss_nil)
      (pss_cons (ps_for PassesOwn.never rfl (pi_range1 (by rfl) T.range (pa_cons (pe_callB call_len_seq (by rfl) T.len boot_len (pa_cons (pv 1) pa_nil)) pa_nil)) (pg_name (i := 2) scAlike.nd rfl (Or.inl rfl))
        (pss_one (ps_if (pt_not (pt_val (pe_call GP hr (by rfl) mA F.kp bA .nil pass0 (pa_cons (pe_ix ix_tup (pv 0) (pv 2) (fun _ _ => rfl)) (pa_cons (pe_ix ix_tup (pv 1) (pv 2) (fun _ _ => rfl)) pa_nil))))) (pss_one (ps_ret pe_bl)) pss_nil)))
      (pss_one (ps_ret pe_bl))))))))), ?_⟩
    have no : ∀ {a b : V}, a ≠ b → ¬ decide (a = b) = true := fun h z => h (of_decide_eq_true z)
    have yes : ∀ x : V, V.bl (decide (x = x)) = V.bl true := fun x => by rw [decide_eq_true rfl]
    cases rx with
    | non =>
      cases ry
      exact ⟨_, rfl, _, rfl, iteT ⟨_, rfl, k0⟩⟩
    | bl b =>
      cases ry
      refine ⟨_, rfl, _, rfl, ite2 (fun z => absurd z (no (by intro q; cases q))) fun _ => ?_⟩
      refine ⟨_, rfl, _, _, .base (.bl b), kitYes (by decide +kernel), _, rfl, iteT ?_⟩
      refine ⟨_, rfl, _, _, .base (.bl b), kitYes (by decide +kernel), _, rfl, iteT ⟨_, rfl, _, rfl, rfl, ?_⟩⟩
      rw [yes]
      exact k0
    | int i =>
      cases ry
      refine ⟨_, rfl, _, rfl, ite2 (fun z => absurd z (no (by intro q; cases q))) fun _ => ?_⟩
      refine ⟨_, rfl, _, _, .base (.int i), kitNo (by decide +kernel), _, rfl, iteF ?_⟩
      refine ⟨_, rfl, _, _, .base (.int i), kitYes (by decide +kernel), _, rfl, iteT ?_⟩
      refine ⟨_, rfl, _, _, .base (.int i), kitYes (by decide +kernel), _, rfl, iteT ⟨_, rfl, _, _, .base (.int i), kitNo (by decide +kernel), _, rfl, _, rfl, iteT ⟨_, rfl, _, rfl, rfl, ?_⟩⟩⟩
      rw [yes]
      exact k0
    | str hz =>
      rename_i z
      cases ry
      refine ⟨_, rfl, _, rfl, ite2 (fun z => absurd z (no (by intro q; cases q))) fun _ => ?_⟩
      refine ⟨_, rfl, _, _, .base (.str z), kitNo (by decide +kernel), _, rfl, iteF ?_⟩
      refine ⟨_, rfl, _, _, .base (.str z), kitNo (by decide +kernel), _, rfl, iteF ?_⟩
      refine ⟨_, rfl, _, _, .base (.str z), kitYes (by decide +kernel), _, rfl, iteT ?_⟩
      refine ⟨_, rfl, _, _, .base (.str z), kitYes (by decide +kernel), _, rfl, iteT ⟨_, rfl, _, rfl, rfl, ?_⟩⟩
      rw [yes]
      exact k0
    | @tup p xs l hp1 ra =>
      obtain ⟨q, ys, rfl, hq, rb⟩ := ry.tup_inv
      have la := ra.len
      have lb := rb.len
      refine ⟨_, rfl, _, rfl, ite2 (fun z => absurd z (no (by intro q; cases q))) fun _ => ?_⟩
      refine ⟨_, rfl, _, _, .base (.tup hq), kitNo (by decide +kernel), _, rfl, iteF ?_⟩
      refine ⟨_, rfl, _, _, .base (.tup hq), kitNo (by decide +kernel), _, rfl, iteF ?_⟩
      refine ⟨_, rfl, _, _, .base (.tup hq), kitNo (by decide +kernel), _, rfl, iteF ?_⟩
      refine ⟨_, rfl, _, _, .base (.tup hq), kitYes (by decide +kernel), _, rfl, iteT ⟨_, rfl, _, _, .base (.tup hp1), kitYes (by decide +kernel), _, rfl, iteF ?_⟩⟩
      refine ⟨_, rfl, _, _, .base (.tup hq), kitNo (by decide +kernel), _, rfl, iteF (iteF ?_)⟩
      refine ⟨_, rfl, p, xs, rfl, .inr (SqT.of hp1), _, rfl, q, ys, rfl, .inr (SqT.of hq), rfl, _, rfl, iteNS (by rw [la, lb]) ?_⟩
      have l1000 : l.length ≤ 1000 := by
        cases n with
        | zero => cases hp
        | succ m => exact of_decide_eq_true (Bool.and_eq_true_iff.mp (show (decide (l.length ≤ 1000) && l.all (plainB m)) = true from hp)).1
      refine ⟨_, rfl, q, ys, rfl, .inr (SqT.of hq), _, rfl, by omega, by omega, for_range (lo := 0) (n := ys.length) (fun i σ H' => ∃ v : Option V, σ = [some (.ref p), some (.ref q), v] ∧ Same H H') ⟨_, rfl, Same.refl H⟩ ?_ ?_⟩
      · rintro i σ H' hi ⟨v, rfl, hS⟩
        cases n with
        | zero => cases hp
        | succ m =>
          have hp : l.all (plainB m) = true := (Bool.and_eq_true_iff.mp (show (decide (l.length ≤ 1000) && l.all (plainB m)) = true from hp)).2
          have li : i < l.length := by omega
          obtain ⟨vx, ex, rx⟩ := ra.get (i := i) (d := l[i]) (List.getElem?_eq_getElem li)
          obtain ⟨vy, ey, ry⟩ := rb.get (i := i) (d := l[i]) (List.getElem?_eq_getElem li)
          refine ⟨_, rfl, _, rfl, p, _, _, _, rfl, rfl, SqT.of (hS _ _ hp1), at_of (j := i) (by omega) ex, _, rfl, _, rfl, q, _, _, _, rfl, rfl, SqT.of (hS _ _ hq), at_of (j := i) (by omega) ey, ?_⟩
          exact ⟨vx, vy, l[i], rfl, rx.keep hS, ry.keep hS, List.all_eq_true.mp hp _ (List.getElem_mem li), fun H2 h2 => ⟨_, rfl, iteF ⟨_, rfl, hS.trans h2⟩⟩⟩
      · rintro σ H' ⟨v, rfl, hS⟩
        exact k H' hS
    | lst _ => cases n <;> cases hp
    | dct _ => cases n <;> cases hp
    | ins _ _ => cases n <;> cases hp
theorem ok_alike {f : Addr} {fd : FuncData} (F : Fun K "_law_alike" "_law_alike" sAlike f fd) (T : TxtI mg) (mA : mg "_law_alike" = some (.ref f)) (bA : Binds K fd ["_law_actual", "_law_due"] []) : ∀ n, FnOk P w K mg base CX0 (n + 2) f fd ["_law_actual", "_law_due"] (spAlike K n)
  | 0 => alike_step F T mA bA never_ok
  | n + 1 => alike_step F T mA bA (ok_alike F T mA bA n)
end
end Oh
namespace L2
open PySem PySem.Spec PyProof.Rows
section
variable {X : Cx} {CX : CXT} {x : Str} {C f : Addr} {k : Nat} {fd : FuncData} {ps : List Str} {sp : Sp} {E : L2.St → XK} {e : Expr} {es : List Expr} {t : TA} {p pos : Pos}
/-- C(e, ..), what it lets out told at the slots -/
def tMakeS (C : Addr) (sp : Sp) (E : L2.St → XK) (t : TA) : TE := fun σ H Q => t σ H fun vs H1 => ∀ x dx, H1 x = none → H1 dx = none → dx ≠ x →
  sp (.ref x :: vs) (upd (upd H1 dx (.own x)) x (.ins C dx [])) (fun v H2 => v = .non ∧ Q (.ref x) H2) (E σ)
theorem pe_makeS (M : Mk X.K C f) (F : FnOk X.prog X.w X.K X.mg X.base CX k f fd ps sp) (hr : Room (k + 1) X.A) (hg : Gl X x) (hm : X.mg x = some (.ref C)) (hb : Binds X.K fd ps []) (hx : ∀ σ, PassesAt CX X σ (E σ))
    (ha : PA X (e :: es) t) (hdb : (x == ("__debug__" : Str)) = false := by decide) (he : starEach (e :: es) X.env = (false, eval e X.env) :: starEach es X.env := by rfl) (hpl : (backTo pos (starEach es X.env)).any (·.1) = false := by rfl) :
    PE X (.Call (.Name x p) (e :: es) [] pos) (tMakeS C sp E t) := by
  refine ⟨fun pins s σ H Q I h => ?_⟩
  refine wpAny_Call_Name_kw (ld_glob I hg hm ?_ hdb)
  refine PySem.W.callWith_K (h₀ := X.base) I.ok.mod.kin M.kp (thn (ha.run pos pins s σ H _ I h) fun us s1 ⟨vs, H1, I1, r, q⟩ => ⟨I1.kIn, ?_⟩) he hpl
  have hq := q (s1.heap.objs.size + 1) s1.heap.objs.size (I1.hok.fresh (Nat.le_succ _)) (I1.hok.fresh (Nat.le_refl _)) (Nat.ne_of_lt (Nat.lt_succ_self _))
  have I2 := Inv.made (C := C) I1
  have r2 : Vals (V.ref (s1.heap.objs.size + 1) :: vs) (Value.ref (s1.heap.objs.size + 1) :: us) := .cons rfl r
  have hl : (Value.ref (s1.heap.objs.size + 1) :: us).length = ps.length := by
    have e := r2.length
    rw [F.len _ _ _ _ hq] at e
    exact e.symm
  have bb := hb _ (Value.ref (s1.heap.objs.size + 1) :: us) I2.kIn (by rw [List.append_nil]; exact hl)
  rw [List.append_nil] at bb
  refine wpAny_call (make_map (f := f) I1.kIn M.makes M.init (beq_iff_eq.mp M.fn) (codeAny_mono (F.run _ X.stack _ _ ⟨Value.ref (s1.heap.objs.size + 1) :: us, []⟩ (Value.ref (s1.heap.objs.size + 1) :: us) _ _ (E σ) (hr.make C us [])
    (I2.env0.make C us []) bb r2 hq) fun r s' hq' => ?_))
  cases r with
  | error e => exact hx σ pins _ _ e s' I2 hq'
  | ok fl =>
    cases fl with
    | ret u =>
      obtain ⟨v, H', I3, rv, ev, q3⟩ := I2.after hq'
      subst ev
      exact ⟨rv, ⟨V.ref (s1.heap.objs.size + 1), H', I3, rfl, q3⟩⟩
    | next => exact False.elim hq'
    | brk => exact False.elim hq'
    | cont => exact False.elim hq'
end
end L2
namespace Oh
open PySem PySem.Spec PyProof.Rows L2 PpSet
theorem pathA {K : PySem.W.Frag} {H : Hp} : ∀ w : List Nat, RpAll K H (pathV w) (w.map fun (n : Nat) => DT.int (n : Int))
  | [] => .nil
  | a :: r => .cons (.int _) (pathA r)
theorem path_rp {K : PySem.W.Frag} {H : Hp} {p : Addr} {w : List Nat} (h : H p = some (.tup (pathV w))) : Rp K H (.ref p) (pathD w) := .tup h (pathA w)
abbrev pathP (w : List Nat) : PyData := PyData.tuple (w.map fun (n : Nat) => PyData.int (n : Int))
theorem pathDp {K : PySem.W.Frag} {H : Hp} : ∀ w : List Nat, DpAll K H (pathV w) (w.map fun (n : Nat) => PyData.int (n : Int))
  | [] => .nil
  | a :: r => .cons (.int _) (pathDp r)
theorem path_dp {K : PySem.W.Frag} {H : Hp} {p : Addr} {w : List Nat} (h : H p = some (.tup (pathV w))) : Dp K H (.ref p) (pathP w) := .tup (SqT.of h) (pathDp w)
theorem shaped_path (w : List Nat) : SeqAt.shaped (pathP w) = true := by
  have h1 : ∀ w : List Nat, PyData.canLayAll0 (w.map fun (n : Nat) => PyData.int (n : Int)) = true := fun w => by
    induction w with
    | nil => simp [PyData.canLayAll0]
    | cons a r ih => simp only [List.map_cons, PyData.canLayAll0, PyData.canLay0, ih, Bool.and_self]
  have h2 : ∀ w : List Nat, PyData.depthAll (w.map fun (n : Nat) => PyData.int (n : Int)) = 0 := fun w => by
    induction w with
    | nil => simp [PyData.depthAll]
    | cons a r ih => simp only [List.map_cons, PyData.depthAll, PyData.depth, ih, Nat.max_self]
  show (PyData.canLay0 (pathP w) && decide (PyData.depth (pathP w) ≤ 64)) = true
  rw [show PyData.canLay0 (pathP w) = true by simp only [PyData.canLay0, h1], show PyData.depth (pathP w) = 1 by simp only [PyData.depth, h2]]
  rfl
theorem shaped_let : SeqAt.shaped (PyData.str "let") = true := by decide +kernel
theorem eqv_path (w : List Nat) : PyData.eqv (pathP w) (PyData.str "let") = false := by simp only [PyData.eqv]
theorem eqv_none : PyData.eqv PyData.none (PyData.str "let") = false := by simp only [PyData.eqv]
theorem eqv_let : PyData.eqv (PyData.str "let") (PyData.str "let") = true := by decide +kernel
end Oh
/-! tuple * int, any number of times. -/
namespace L2
open PySem PySem.Spec PyProof.Rows
theorem tuple_mul1 (l : Addr) (items : Array Value) (n : Nat) (dd : Option Addr) (sl : Array (Option Value)) (x : Int) (u : Tok) (c0 : (decide (x < -(2 ^ 63)) || decide (x ≥ 2 ^ 63)) = false) (c1 : (items.isEmpty || x == 1) = true) :
    Meets (Builtin.«tuple.__mul__» ⟨[.ref l, .int x u], []⟩) (fun _ R s => s.heap.get? l = some { cls := .type "tuple", dict := dd, data := .seq items n, slots := sl } ∧
      R (.ok (.ret (Value.ref l))) s) :=
  .of_wp fun prog w A R s h => by
    obtain ⟨hp, g, d, tk, os⟩ := s
    obtain ⟨hl, h⟩ := h
    have f1 := AutoSeq1.idx_int
    wp_walk using wpAny_loadPart' hl
    repeat (first
      | (refine wpAny_ite_false (decide_eq_false (by rw [c0]; exact Bool.false_ne_true)) ?_; wp_walk using wpAny_loadPart' hl)
      | (refine wpAny_ite_true (decide_eq_true c1) ?_; wp_walk using wpAny_loadPart' hl))
    exact ⟨_, rfl, h⟩
theorem tuple_mul0 (l : Addr) (items : Array Value) (n : Nat) (dd : Option Addr) (sl : Array (Option Value)) (x : Int) (u : Tok) (c0 : (decide (x < -(2 ^ 63)) || decide (x ≥ 2 ^ 63)) = false) (c1 : (items.isEmpty || x == 1) = false) (c2 : (decide (x ≤ 0) || items.isEmpty) = true) :
    Meets (Builtin.«tuple.__mul__» ⟨[.ref l, .int x u], []⟩) (fun _ R s => s.heap.get? l = some { cls := .type "tuple", dict := dd, data := .seq items n, slots := sl } ∧
      R (.ok (.ret (Value.ref s.heap.objs.size))) { s with heap := s.heap.push { cls := Value.type "tuple", data := Data.seq #[] }, toks := s.toks }) :=
  .of_wp fun prog w A R s h => by
    obtain ⟨hp, g, d, tk, os⟩ := s
    obtain ⟨hl, h⟩ := h
    have f1 := AutoSeq1.idx_int
    wp_walk using wpAny_loadPart' hl
    repeat (first
      | (refine wpAny_ite_false (decide_eq_false (by rw [c0]; exact Bool.false_ne_true)) ?_; wp_walk using wpAny_loadPart' hl)
      | (refine wpAny_ite_false (decide_eq_false (by rw [c1]; exact Bool.false_ne_true)) ?_; wp_walk using wpAny_loadPart' hl)
      | (refine wpAny_ite_true (decide_eq_true c2) ?_; wp_walk using wpAny_loadPart' hl))
    exact ⟨_, rfl, h⟩
/-- t * k: the tuple itself, an empty one, or a new one -/
def rRepA (K : PySem.W.Frag) : R2 := fun x y H Q => ∃ l k xs, x = .ref l ∧ y = .int k ∧ SqT K H l xs ∧ 0 ≤ k ∧ k ≤ 1000 ∧ xs.length ≤ 1000 ∧ (xs = [] ∨ k = 1 → Q (.ref l) H) ∧ (xs ≠ [] → k ≠ 1 → ∀ p, H p = none → Q (.ref p) (upd H p (.tup (List.replicate k.toNat xs).flatten)))
section
variable {X : Cx}
theorem op_repA : OpR X (binaryOp .Mult) (rRepA X.K) := by
  intro pins s σ H x y v u Q I rx ry h
  obtain ⟨l, k, xs, rfl, rfl, hT, h0, h1, hz, q1, q2⟩ := h
  by_cases hne : xs ≠ [] ∧ 2 ≤ k
  · exact op_repT pins s σ H _ _ v u Q I rx ry ⟨l, k, xs, rfl, rfl, hT, hne.1, hne.2, h1, hz, q2 hne.1 (by omega)⟩
  cases rx
  obtain ⟨t, rfl⟩ := ry
  obtain ⟨its, r, ⟨⟨cls, dd, data, sl⟩, ho, hc, n, hd⟩, hs⟩ := I.tuple hT
  simp only at hc hd
  subst hc hd
  have hle : its.length = xs.length := r.length.symm
  have c0 : (decide (k < -(2 ^ 63)) || decide (k ≥ 2 ^ 63)) = false := by
    rw [decide_eq_false (by omega), decide_eq_false (by omega)] <;> rfl
  by_cases c : xs = [] ∨ k = 1
  · have c1 : (its.toArray.isEmpty || k == 1) = true := by
      rcases c with c | c
      · have : its = [] := List.eq_nil_of_length_eq_zero (by rw [hle, c]; rfl)
        subst this
        rfl
      · rw [c]
        simp
    refine wpAny_binaryOp_repeat_ref (T := "tuple") (U := "int") (by decide) ⟨_, ho, rfl⟩ (fun s' => typeIs_int s' k t) noFill_tuple_mul F.fills_int_mul F.slot_int_rmul repeat_tuple F.slot_int_index.lookup
      (call_meets F.slot_int_rmul (typeIs_int s k t) F.entry_int_rmul (F.args_int_rmul_2 _ _) (int_rmul_tuple k t l its.toArray n dd sl)
        ⟨ho, rfl, ⟨_, ho, rfl⟩, call_meets F.slot_tuple_mul ⟨_, ho, rfl⟩ F.entry_tuple_mul (F.args_tuple_mul_2 _ _) (tuple_mul1 l its.toArray n dd sl k t c0 c1) ⟨ho, ?_⟩⟩)
    exact ⟨.ref l, H, I, rfl, q1 c⟩
  · have hne2 : xs ≠ [] := fun z => c (.inl z)
    have hk1 : k ≠ 1 := fun z => c (.inr z)
    have hk0 : k = 0 := by
      have : ¬ 2 ≤ k := fun z => hne ⟨hne2, z⟩
      omega
    have hn : its ≠ [] := fun e => hne2 (by
      rw [e] at hle
      exact List.eq_nil_of_length_eq_zero hle.symm)
    have hi : its.toArray.isEmpty = false := by
      cases its with
      | nil => exact absurd rfl hn
      | cons a b => rfl
    have c1 : (its.toArray.isEmpty || k == 1) = false := by
      rw [hi, Bool.false_or]
      exact beq_eq_false_iff_ne.mpr hk1
    have c2 : (decide (k ≤ 0) || its.toArray.isEmpty) = true := by
      rw [decide_eq_true (show k ≤ 0 by omega)]
      rfl
    refine wpAny_binaryOp_repeat_ref (T := "tuple") (U := "int") (by decide) ⟨_, ho, rfl⟩ (fun s' => typeIs_int s' k t) noFill_tuple_mul F.fills_int_mul F.slot_int_rmul repeat_tuple F.slot_int_index.lookup
      (call_meets F.slot_int_rmul (typeIs_int s k t) F.entry_int_rmul (F.args_int_rmul_2 _ _) (int_rmul_tuple k t l its.toArray n dd sl)
        ⟨ho, rfl, ⟨_, ho, rfl⟩, call_meets F.slot_tuple_mul ⟨_, ho, rfl⟩ F.entry_tuple_mul (F.args_tuple_mul_2 _ _) (tuple_mul0 l its.toArray n dd sl k t c0 c1 c2) ⟨ho, ?_⟩⟩)
    have q3 := q2 hne2 hk1 _ (I.hok.fresh (Nat.le_refl _))
    rw [hk0] at q3
    exact ⟨.ref s.heap.objs.size, _, I.laid (t' := s.toks) (o := .tup []) (fun b ob q => Heap.get?_push_of_some _ q) (Nat.le_refl _) ⟨by decide, [], .nil, IsTup.new _ _⟩, rfl, q3⟩
end
end L2
namespace Oh
open PySem PySem.Spec PyProof.Rows L2 PpSet
/-! ### draws between -/
structure Drw (a c : Addr) (H H' : Hp) : Prop where
  k : Keep a c H H'
  s : Src H' a c
theorem Drw.trans {a c : Addr} {H H1 H2 : Hp} (x : Drw a c H H1) (y : Drw a c H1 H2) : Drw a c H H2 := ⟨x.k.trans y.k, y.s⟩
theorem Src.same {a c : Addr} {H H' : Hp} (s : Same H H') (S : Src H a c) : Src H' a c := by
  obtain ⟨n, ns, i, sm, k, x1, x2, x3⟩ := S
  exact ⟨n, ns, i, sm, k, s _ _ x1, s _ _ x2, x3⟩
theorem Drw.of_same {a c : Addr} {H H' : Hp} (S : Src H a c) (s : Same H H') : Drw a c H H' := ⟨Keep.of_same s, S.same s⟩
theorem Drw.refl {a c : Addr} {H : Hp} (S : Src H a c) : Drw a c H H := ⟨Keep.refl _ _ _, S⟩
theorem Drw.at {a c : Addr} {H H' : Hp} (S : Src H a c) (x : Drw a c H H') {p : Addr} {o : HO} (e : H p = some o) (ne : ∀ xs, o ≠ .lst xs) : H' p = some o := by
  obtain ⟨_, ns, i, sm, k, x1, x2, _⟩ := S
  refine x.k p o e (fun z => ?_) (fun z => ?_)
  · subst z
    exact ne _ (Option.some.inj (e.symm.trans x1))
  · subst z
    exact ne _ (Option.some.inj (e.symm.trans x2))
mutual
theorem Rp.drw {K : PySem.W.Frag} {H H' : Hp} {a c : Addr} (S : Src H a c) (x : Drw a c H H') : ∀ {v : V} {d : DT}, Rp K H v d → Rp K H' v d
  | _, _, .non => .non
  | _, _, .bl b => .bl b
  | _, _, .int i => .int i
  | _, _, .str z => .str z
  | _, _, .tup e r => .tup (x.at S e (fun _ => nofun)) (RpAll.drw S x r)
  | _, _, .lst (p := p) (xs := xs) e => by
    obtain ⟨_, ns, i, sm, k, x1, x2, _⟩ := x.s
    by_cases h1 : p = a
    · subst h1
      exact .lst x1
    · by_cases h2 : p = c
      · subst h2
        exact .lst x2
      · exact .lst (x.k p _ e h1 h2)
  | _, _, .dct e => .dct (x.at S e (fun _ => nofun))
  | _, _, .ins e c => .ins (x.at S e (fun _ => nofun)) c
theorem RpAll.drw {K : PySem.W.Frag} {H H' : Hp} {a c : Addr} (S : Src H a c) (x : Drw a c H H') : ∀ {vs : List V} {ds : List DT}, RpAll K H vs ds → RpAll K H' vs ds
  | _, _, .nil => .nil
  | _, _, .cons h t => .cons (Rp.drw S x h) (RpAll.drw S x t)
end
theorem RpAll.append {K : PySem.W.Frag} {H : Hp} : ∀ {vs ws : List V} {ds es : List DT}, RpAll K H vs ds → RpAll K H ws es → RpAll K H (vs ++ ws) (ds ++ es)
  | _, _, _, _, .nil, h => h
  | _, _, _, _, .cons h t, z => .cons h (t.append z)
theorem RpAll.rep {K : PySem.W.Frag} {H : Hp} {vs : List V} {ds : List DT} (h : RpAll K H vs ds) : ∀ n, RpAll K H (List.replicate n vs).flatten (List.replicate n ds).flatten
  | 0 => .nil
  | n + 1 => by
    rw [List.replicate_succ, List.replicate_succ, List.flatten_cons, List.flatten_cons]
    exact h.append (h.rep n)
theorem RpAll.tail {K : PySem.W.Frag} {H : Hp} {v : V} {vs : List V} {d : DT} {ds : List DT} (h : RpAll K H (v :: vs) (d :: ds)) : RpAll K H vs ds := by
  cases h with
  | cons _ t => exact t
theorem RpAll.take {K : PySem.W.Frag} {H : Hp} : ∀ {vs : List V} {ds : List DT} (n : Nat), RpAll K H vs ds → RpAll K H (vs.take n) (ds.take n)
  | _, _, 0, _ => .nil
  | _, _, _ + 1, .nil => .nil
  | _, _, n + 1, .cons h t => .cons h (t.take n)
theorem RpAll.drop {K : PySem.W.Frag} {H : Hp} : ∀ {vs : List V} {ds : List DT} (n : Nat), RpAll K H vs ds → RpAll K H (vs.drop n) (ds.drop n)
  | _, _, 0, h => h
  | _, _, _ + 1, .nil => .nil
  | _, _, n + 1, .cons _ t => t.drop n
/-! ### displays -/
def Ev (K : PySem.W.Frag) (te : TE) (σ : L2.St) (H : Hp) (d : DT) : Prop := ∀ H1, Same H H1 → ∀ Q : VK, (∀ v H', Same H1 H' → Rp K H' v d → Q v H') → te σ H1 Q
def EvA (K : PySem.W.Frag) (ta : TA) (σ : L2.St) (H : Hp) (ds : List DT) : Prop := ∀ H1, Same H H1 → ∀ Q : List V → Hp → Prop, (∀ vs H', Same H1 H' → RpAll K H' vs ds → Q vs H') → ta σ H1 Q
section
variable {K : PySem.W.Frag} {σ : L2.St} {H : Hp}
theorem Ev.go {te : TE} {d : DT} {Q : VK} (e : Ev K te σ H d) (k : ∀ v H', Same H H' → Rp K H' v d → Q v H') : te σ H Q := e H (Same.refl H) Q k
theorem ev_var {i : Nat} {v : V} {d : DT} (r : Rp K H v d) (e : σ[i]? = some (some v)) : Ev K (tVar i) σ H d := fun H1 s Q k => ⟨v, e, k v H1 (Same.refl _) (r.keep s)⟩
theorem ev_str {s : Str} (h : s.length ≤ 1000 := by decide +kernel) : Ev K (tC (.str s)) σ H (.str s) := fun H1 _ Q k => k _ H1 (Same.refl _) (.str h)
theorem ev_int {i : Int} : Ev K (tC (.int i)) σ H (.int i) := fun H1 _ Q k => k _ H1 (Same.refl _) (.int i)
theorem eva_nil : EvA K tNil σ H [] := fun H1 _ Q k => k [] H1 (Same.refl _) .nil
theorem eva_cons {te : TE} {ta : TA} {d : DT} {ds : List DT} (h : Ev K te σ H d) (t : EvA K ta σ H ds) : EvA K (tCons te ta) σ H (d :: ds) := fun H1 s Q k =>
  h H1 s _ fun v H2 s2 r => t H2 (s.trans s2) _ fun vs H3 s3 rs => k (v :: vs) H3 (s2.trans s3) (.cons (r.keep s3) rs)
theorem ev_tup {ta : TA} {ds : List DT} (h : EvA K ta σ H ds) (hl : ds.length ≤ 1000 := by exact Nat.le_of_ble_eq_true rfl) : Ev K (tTup ta) σ H (.tup ds) := fun H1 s Q k =>
  h H1 s _ fun vs H2 s2 rs => ⟨by rw [rs.len]; exact small9 hl, fun p np => k _ _ (s2.trans (Same.new np)) (.tup upd_same (rs.keep (Same.new np)))⟩
theorem ev_cat {t1 t2 : TE} {l1 l2 : List DT} (h1 : Ev K t1 σ H (.tup l1)) (h2 : Ev K t2 σ H (.tup l2)) (hl : l1.length + l2.length ≤ 1000) : Ev K (tOp (rCatA K) t1 t2) σ H (.tup (l1 ++ l2)) := fun H1 s Q k =>
  h1 H1 s _ fun v1 H2 s2 r1 => h2 H2 (s.trans s2) _ fun v2 H3 s3 r2 => by
    obtain ⟨p, xs, rfl, hp, ra⟩ := (r1.keep s3).tup_inv
    obtain ⟨q, ys, rfl, hq, rb⟩ := r2.tup_inv
    have la := ra.len
    have lb := rb.len
    refine ⟨p, q, xs, ys, rfl, rfl, SqT.of hp, SqT.of hq, small9 (by omega), fun z => ?_, fun _ z => ?_, fun _ _ r nr => ?_⟩
    · subst z
      have : l1 = [] := List.eq_nil_of_length_eq_zero la.symm
      subst this
      exact k _ H3 (s2.trans s3) (.tup hq rb)
    · subst z
      have : l2 = [] := List.eq_nil_of_length_eq_zero lb.symm
      subst this
      rw [List.append_nil] at k
      exact k _ H3 (s2.trans s3) (.tup hp ra)
    · exact k _ _ (s2.trans (s3.trans (Same.new nr))) (.tup upd_same ((ra.append rb).keep (Same.new nr)))
theorem ev_rep {t1 t2 : TE} {l : List DT} {n : Nat} (h1 : Ev K t1 σ H (.tup l)) (h2 : Ev K t2 σ H (.int n)) (hl : l.length ≤ 1000) (hn : n ≤ 1000) : Ev K (tOp (rRepA K) t1 t2) σ H (.tup (List.replicate n l).flatten) := fun H1 s Q k =>
  h1 H1 s _ fun v1 H2 s2 r1 => h2 H2 (s.trans s2) _ fun v2 H3 s3 r2 => by
    obtain ⟨p, xs, rfl, hp, ra⟩ := (r1.keep s3).tup_inv
    cases r2
    have la := ra.len
    refine ⟨p, _, xs, rfl, rfl, SqT.of hp, by omega, by omega, by omega, fun z => ?_, fun _ _ r nr => ?_⟩
    · have e : (List.replicate n l).flatten = l := by
        rcases z with z | z
        · subst z
          have : l = [] := List.eq_nil_of_length_eq_zero la.symm
          subst this
          rw [List.flatten_replicate_nil]
        · have : n = 1 := by omega
          subst this
          simp
      rw [e] at k
      exact k _ H3 (s2.trans s3) (.tup hp ra)
    · exact k _ _ (s2.trans (s3.trans (Same.new nr))) (.tup upd_same ((ra.rep n).keep (Same.new nr)))
theorem ev_tail {t1 : TE} {d : DT} {l : List DT} (h1 : Ev K t1 σ H (.tup (d :: l))) : Ev K (tSl (rSlA K) t1 (tPart (tC (.int 1))) tNoPart) σ H (.tup l) := fun H1 s Q k =>
  h1 H1 s _ fun v1 H2 s2 r1 => by
    obtain ⟨p, xs, rfl, hp, ra⟩ := r1.tup_inv
    obtain ⟨vh, vs, rfl, ra'⟩ : ∃ vh vs, xs = vh :: vs ∧ RpAll K H2 vs l := by
      cases ra with
      | cons _ t => exact ⟨_, _, rfl, t⟩
    refine ⟨1, rfl, p, _, rfl, SqT.of hp, fun z => absurd z (cut1_no _ _), fun _ q nq => ?_⟩
    rw [cut1]
    exact k _ _ (s2.trans (Same.new nq)) (.tup upd_same (ra'.keep (Same.new nq)))
theorem ev_take {t1 : TE} {n : Nat} {l : List DT} (h1 : Ev K t1 σ H (.tup l)) : Ev K (tSl (rSlA K) t1 tNoPart (tPart (tC (.int (n : Int))))) σ H (.tup (l.take n)) := fun H1 s Q k =>
  h1 H1 s _ fun v1 H2 s2 r1 => by
    obtain ⟨p, xs, rfl, hp, ra⟩ := r1.tup_inv
    have la := ra.len
    have e1 : HT.sIx xs.length xs.length (some (n : Int)) = min n xs.length := HT.sIx_nat _ _ _
    refine ⟨_, rfl, p, _, rfl, SqT.of hp, fun z => ?_, fun _ q nq => ?_⟩
    · have : l.take n = l := List.take_of_length_le (by
        have z2 := z.2
        rw [e1] at z2
        omega)
      rw [this] at k
      exact k _ _ s2 (.tup hp ra)
    · have e2 : cutV xs none (some (n : Int)) = xs.take n := by
        unfold cutV
        rw [e1, HT.sIx_none, List.drop_zero, Nat.sub_zero]
        by_cases c : n ≤ xs.length
        · rw [Nat.min_eq_left c]
        · rw [Nat.min_eq_right (by omega), List.take_length, List.take_of_length_le (by omega)]
      rw [e2]
      exact k _ _ (s2.trans (Same.new nq)) (.tup upd_same ((ra.take n).keep (Same.new nq)))
end
end Oh
namespace Oh
open PySem PySem.Spec PyProof.Rows L2 PpSet
/-! ### blocks with items that are no statements: m levels at most, where statements lead on -/
def depW : Nat → DT → Prop
  | 0 => fun _ => False
  | m + 1 => fun b => ∀ d ∈ listB b, stmtB d = true → ∀ c ∈ blocksB d, depW m c
theorem dep_up : ∀ {m k : Nat} {b : DT}, m ≤ k → depW m b → depW k b
  | 0, _, _, _, h => h.elim
  | m + 1, 0, _, h, _ => absurd h (by omega)
  | m + 1, k + 1, b, hm, h => fun d hd hs c hc => dep_up (by omega) (h d hd hs c hc)
/-- the quiet ways, whatever the depth is -/
def quietO (rec : DT → Bool × Bool) (d : DT) : Bool × Bool :=
  if stmtB d = false then (false, false) else if headB d = "set" then (true, false) else if headB d = "leave" then (false, true) else if headB d = "repeat" then ((rec (argB d 1)).2, false)
  else if headB d = "if" ∨ headB d = "open" then ((((blocksB d).map rec).map (·.1)).any id, (((blocksB d).map rec).map (·.2)).any id) else (false, false)
def quietW : Nat → DT → Bool × Bool
  | 0 => fun _ => (false, false)
  | m + 1 => fun b => quietL (quietO (quietW m)) (listB b) false
theorem quietL_congr {g k : DT → Bool × Bool} : ∀ (l : List DT) (lv : Bool), (∀ d ∈ l, g d = k d) → quietL g l lv = quietL k l lv
  | [], _, _ => rfl
  | d :: r, lv, h => by
    unfold quietL
    rw [h d List.mem_cons_self]
    rw [quietL_congr r (lv || (k d).2) fun x hx => h x (List.mem_cons_of_mem _ hx)]
theorem blocks_head {d : DT} (h : headB d = "repeat") : blocksB d = [argB d 1] := by
  unfold blocksB
  rw [if_neg (by rw [h]; decide), if_pos h]
theorem quietO_congr {g k : DT → Bool × Bool} {d : DT} (h : ∀ c ∈ blocksB d, g c = k c) : quietO g d = quietO k d := by
  unfold quietO
  have e2 : (blocksB d).map g = (blocksB d).map k := List.map_congr_left h
  by_cases c1 : headB d = "repeat"
  · have e := h (argB d 1) (by rw [blocks_head c1]; exact List.mem_cons_self)
    rw [e, e2]
  · rw [if_neg c1, if_neg c1, e2]
theorem quiet_up : ∀ {m k : Nat} {b : DT}, m ≤ k → depW m b → quietW k b = quietW m b
  | 0, _, _, _, h => h.elim
  | m + 1, 0, _, h, _ => absurd h (by omega)
  | m + 1, k + 1, b, hm, h => quietL_congr _ _ fun d hd => by
    cases hs : stmtB d with
    | false => unfold quietO; rw [if_pos hs, if_pos hs]
    | true => exact quietO_congr fun c hc => quiet_up (by omega) (h d hd hs c hc)
theorem sound_dep {m f : Nat} {d : DT} (hs : stmtB d = true) (h : ∀ c ∈ blocksB d, depW m c) (hm : m ≤ f) (hf : f ≤ 11) : soundB (12 - f) d = true := by
  unfold soundB
  rw [hs, Bool.true_and]
  cases f with
  | succ f => rw [decide_eq_true (by omega), Bool.true_or]
  | zero =>
    obtain rfl : m = 0 := by omega
    have e : blocksB d = [] := by
      cases e : blocksB d with
      | nil => rfl
      | cons c r => exact (h c (by rw [e]; exact List.mem_cons_self)).elim
    rw [e]
    rfl
theorem sound_not {n : Nat} {d : DT} (hs : stmtB d = false) : soundB n d = false := by
  unfold soundB
  rw [hs, Bool.false_and]
theorem quiet_eq : ∀ {m f : Nat} {b : DT}, m ≤ f → f ≤ 12 → depW m b → quietR f b = quietW m b
  | 0, _, _, _, _, h => h.elim
  | m + 1, 0, _, h, _, _ => absurd h (by omega)
  | m + 1, f + 1, b, hm, hf, h => by
    show quietL (quietOf (quietR f) (12 - f)) (listB b) false = quietL (quietO (quietW m)) (listB b) false
    refine quietL_congr _ _ fun d hd => ?_
    cases hs : stmtB d with
    | false => unfold quietOf quietO; rw [if_pos hs, if_pos (sound_not hs)]
    | true =>
      have e : quietOf (quietR f) (12 - f) d = quietO (quietR f) d := by
        unfold quietOf quietO
        rw [sound_dep hs (h d hd hs) (by omega) (by omega), hs]
      rw [e]
      exact quietO_congr fun c hc => quiet_eq (by omega) (by omega) (h d hd hs c hc)
/-! ### the rows of the walk -/
abbrev WRow := List Nat × DT × Bool
def blocksW (rec : DT → List Nat → Bool → List WRow) (here : List Nat) (lp : Bool) : List DT → Nat → List WRow
  | [], _ => []
  | c :: cs, j => rec c (here ++ [j]) lp ++ blocksW rec here lp cs (j + 1)
def inW (rec : DT → List Nat → Bool → List WRow) (here : List Nat) (lp : Bool) (d : DT) : List WRow := if stmtB d = true then blocksW rec here (lp || decide (headB d = "repeat")) (blocksB d) 0 else []
def itemsW (rec : DT → List Nat → Bool → List WRow) (path : List Nat) (lp : Bool) : List DT → Nat → List WRow
  | [], _ => []
  | d :: ds, i => (path ++ [i], d, lp) :: (inW rec (path ++ [i]) lp d ++ itemsW rec path lp ds (i + 1))
def rowsW : Nat → DT → List Nat → Bool → List WRow
  | 0 => fun _ _ _ => []
  | m + 1 => fun b path lp => itemsW (rowsW m) path lp (listB b) 0
def wrongS (lp : Bool) (d : DT) : Bool := if headB d = "leave" then !lp else decide (headB d = "repeat") && (quietW 12 (argB d 1)).1
def wrongW (r : WRow) : Bool := !stmtB r.2.1 || wrongS r.2.2 r.2.1
theorem wrong_eq {m f : Nat} {lp : Bool} {d : DT} {w : List Nat} (h : stmtB d = true → ∀ c ∈ blocksB d, depW m c) (hm : m ≤ f) (hf : f ≤ 11) : wrongB f (12 - f) lp d = wrongW (w, d, lp) := by
  show _ = (!stmtB d || wrongS lp d)
  cases hs : stmtB d with
  | false => exact (wrong_not hs).trans rfl
  | true =>
    unfold wrongB wrongS
    rw [if_neg (by rw [sound_dep hs (h hs) hm hf]; decide)]
    by_cases c : headB d = "repeat"
    · have z : depW m (argB d 1) := h hs _ (by rw [blocks_head c]; exact List.mem_cons_self)
      rw [quiet_eq hm (by omega) z, quiet_up (k := 12) (by omega) z]
      rfl
    · rw [decide_eq_false c]
      rfl
theorem first_blocks {m f : Nat} {here : List Nat} {lp : Bool} (rec : ∀ {b : DT} {path : List Nat} {lp : Bool}, depW m b → firstR f b path lp = ((rowsW m b path lp).find? wrongW).map (·.1)) : ∀ (cs : List DT) (j : Nat), (∀ c ∈ cs, depW m c) →
    goBlocks (firstR f) here lp cs j = ((blocksW (rowsW m) here lp cs j).find? wrongW).map (·.1)
  | [], _, _ => rfl
  | c :: cs, j, h => by
    unfold goBlocks blocksW
    rw [rec (h c List.mem_cons_self), List.find?_append, first_blocks rec cs (j + 1) fun x hx => h x (List.mem_cons_of_mem _ hx)]
    cases (rowsW m c (here ++ [j]) lp).find? wrongW <;> rfl
theorem first_items {m f : Nat} {path : List Nat} {lp : Bool} (hm : m ≤ f) (hf : f ≤ 11) (rec : ∀ {b : DT} {path : List Nat} {lp : Bool}, depW m b → firstR f b path lp = ((rowsW m b path lp).find? wrongW).map (·.1)) : ∀ (ds : List DT) (i : Nat), (∀ d ∈ ds, stmtB d = true → ∀ c ∈ blocksB d, depW m c) →
    goItems (firstR f) f (12 - f) path lp ds i = ((itemsW (rowsW m) path lp ds i).find? wrongW).map (·.1)
  | [], _, _ => rfl
  | d :: ds, i, h => by
    have hd := h d List.mem_cons_self
    unfold goItems itemsW
    rw [wrong_eq (w := path ++ [i]) hd hm hf, List.find?_cons]
    cases c : wrongW (path ++ [i], d, lp) with
    | true => rfl
    | false =>
      have hs : stmtB d = true := by
        cases hs : stmtB d with
        | true => rfl
        | false =>
          have z : (!stmtB d || wrongS lp d) = false := c
          rw [hs] at z
          cases z
      rw [if_neg (by decide), first_blocks rec _ _ (hd hs), List.find?_append, first_items hm hf rec ds (i + 1) fun x hx => h x (List.mem_cons_of_mem _ hx)]
      unfold inW
      rw [if_pos hs]
      cases (blocksW (rowsW m) (path ++ [i]) (lp || decide (headB d = "repeat")) (blocksB d) 0).find? wrongW <;> rfl
theorem first_rows : ∀ {m f : Nat} {b : DT} {path : List Nat} {lp : Bool}, m ≤ f → f ≤ 12 → depW m b → firstR f b path lp = ((rowsW m b path lp).find? wrongW).map (·.1)
  | 0, _, _, _, _, _, _, h => h.elim
  | m + 1, 0, _, _, _, h, _, _ => absurd h (by omega)
  | m + 1, f + 1, b, path, lp, hm, hf, h => first_items (by omega) (by omega) (fun z => first_rows (by omega) (by omega) z) (listB b) 0 h
/-! ### the rows ascend -/
def ltP : List Nat → List Nat → Bool
  | [], [] => false
  | [], _ :: _ => true
  | _ :: _, [] => false
  | a :: r, b :: s => decide (a < b) || (decide (a = b) && ltP r s)
theorem ltP_pre : ∀ (u v w : List Nat), ltP (u ++ v) (u ++ w) = ltP v w
  | [], _, _ => rfl
  | a :: u, v, w => by
    show (decide (a < a) || (decide (a = a) && ltP (u ++ v) (u ++ w))) = _
    rw [decide_eq_false (Nat.lt_irrefl a), decide_eq_true rfl, ltP_pre u v w]
    rfl
theorem ltP_self : ∀ u, ltP u u = false
  | [] => rfl
  | a :: u => by
    show (decide (a < a) || (decide (a = a) && ltP u u)) = _
    rw [decide_eq_false (Nat.lt_irrefl a), ltP_self u]
    simp
theorem ltP_asym : ∀ {u v}, ltP u v = true → ltP v u = false
  | [], [], h => by cases h
  | [], _ :: _, _ => rfl
  | _ :: _, [], h => by cases h
  | a :: r, b :: s, h => by
    have h : (decide (a < b) || (decide (a = b) && ltP r s)) = true := h
    show (decide (b < a) || (decide (b = a) && ltP s r)) = false
    rcases Bool.or_eq_true_iff.mp h with h | h
    · have := of_decide_eq_true h
      rw [decide_eq_false (by omega), decide_eq_false (by omega)]
      rfl
    · obtain ⟨h1, h2⟩ := Bool.and_eq_true_iff.mp h
      have := of_decide_eq_true h1
      rw [decide_eq_false (by omega), ltP_asym h2]
      simp
theorem rows_begin : ∀ {m : Nat} {b : DT} {path : List Nat} {lp : Bool} {r : WRow}, r ∈ rowsW m b path lp → ∃ i v, r.1 = path ++ i :: v
  | 0, _, _, _, _, h => by cases h
  | m + 1, b, path, lp, r, h => by
    have key : ∀ (ds : List DT) (i : Nat), r ∈ itemsW (rowsW m) path lp ds i → ∃ j v, i ≤ j ∧ r.1 = path ++ j :: v := by
      intro ds
      induction ds with
      | nil => intro i h; cases h
      | cons d ds ih =>
        intro i h
        unfold itemsW at h
        rcases List.mem_cons.mp h with rfl | h
        · exact ⟨i, [], Nat.le_refl _, rfl⟩
        rcases List.mem_append.mp h with h | h
        · unfold inW at h
          split at h
          · have kb : ∀ (cs : List DT) (j : Nat), r ∈ blocksW (rowsW m) (path ++ [i]) (lp || decide (headB d = "repeat")) cs j → ∃ v, r.1 = path ++ i :: v := by
              intro cs
              induction cs with
              | nil => intro j h; cases h
              | cons c cs ih2 =>
                intro j h
                unfold blocksW at h
                rcases List.mem_append.mp h with h | h
                · obtain ⟨k, v, e⟩ := rows_begin h
                  exact ⟨j :: k :: v, by rw [e]; simp⟩
                · exact ih2 _ h
            obtain ⟨v, e⟩ := kb _ _ h
            exact ⟨i, v, Nat.le_refl _, e⟩
          · cases h
        · obtain ⟨j, v, hj, e⟩ := ih (i + 1) h
          exact ⟨j, v, by omega, e⟩
    obtain ⟨j, v, _, e⟩ := key (listB b) 0 h
    exact ⟨j, v, e⟩
theorem blocks_begin {m : Nat} {here : List Nat} {lp : Bool} {r : WRow} : ∀ (cs : List DT) (j : Nat), r ∈ blocksW (rowsW m) here lp cs j → ∃ k v, j ≤ k ∧ r.1 = here ++ k :: v
  | [], _, h => by cases h
  | c :: cs, j, h => by
    unfold blocksW at h
    rcases List.mem_append.mp h with h | h
    · obtain ⟨k, v, e⟩ := rows_begin h
      exact ⟨j, k :: v, Nat.le_refl _, by rw [e]; simp⟩
    · obtain ⟨k, v, hk, e⟩ := blocks_begin cs (j + 1) h
      exact ⟨k, v, by omega, e⟩
theorem items_begin {m : Nat} {path : List Nat} {lp : Bool} {r : WRow} : ∀ (ds : List DT) (i : Nat), r ∈ itemsW (rowsW m) path lp ds i → ∃ k v, i ≤ k ∧ r.1 = path ++ k :: v
  | [], _, h => by cases h
  | d :: ds, i, h => by
    unfold itemsW at h
    rcases List.mem_cons.mp h with rfl | h
    · exact ⟨i, [], Nat.le_refl _, rfl⟩
    rcases List.mem_append.mp h with h | h
    · unfold inW at h
      split at h
      · obtain ⟨k, v, _, e⟩ := blocks_begin _ _ h
        exact ⟨i, k :: v, Nat.le_refl _, by rw [e]; simp⟩
      · cases h
    · obtain ⟨k, v, hk, e⟩ := items_begin ds (i + 1) h
      exact ⟨k, v, by omega, e⟩
abbrev Asc (l : List WRow) : Prop := l.Pairwise fun a b => ltP a.1 b.1 = true
theorem ltP_idx {u v w : List Nat} {i j : Nat} (h : i < j) : ltP (u ++ i :: v) (u ++ j :: w) = true := by
  rw [ltP_pre]
  show (decide (i < j) || _) = true
  rw [decide_eq_true h]
  rfl
theorem blocks_asc {m : Nat} {here : List Nat} {lp : Bool} (rec : ∀ {b : DT} {path : List Nat} {lp : Bool}, Asc (rowsW m b path lp)) : ∀ (cs : List DT) (j : Nat), Asc (blocksW (rowsW m) here lp cs j)
  | [], _ => .nil
  | c :: cs, j => by
    unfold blocksW
    refine List.pairwise_append.mpr ⟨rec, blocks_asc rec cs (j + 1), fun a ha b hb => ?_⟩
    obtain ⟨k, v, e⟩ := rows_begin ha
    obtain ⟨k2, v2, h2, e2⟩ := blocks_begin cs (j + 1) hb
    rw [e, e2, List.append_assoc]
    exact ltP_idx (by omega)
theorem items_asc {m : Nat} {path : List Nat} {lp : Bool} (rec : ∀ {b : DT} {path : List Nat} {lp : Bool}, Asc (rowsW m b path lp)) : ∀ (ds : List DT) (i : Nat), Asc (itemsW (rowsW m) path lp ds i)
  | [], _ => .nil
  | d :: ds, i => by
    unfold itemsW
    have hin : ∀ a ∈ inW (rowsW m) (path ++ [i]) lp d, ∃ k v, a.1 = path ++ i :: k :: v := fun a ha => by
      unfold inW at ha
      split at ha
      · obtain ⟨k, v, _, e⟩ := blocks_begin _ _ ha
        exact ⟨k, v, by rw [e]; simp⟩
      · cases ha
    refine List.pairwise_cons.mpr ⟨fun b hb => ?_, List.pairwise_append.mpr ⟨?_, items_asc rec ds (i + 1), fun a ha b hb => ?_⟩⟩
    · rcases List.mem_append.mp hb with hb | hb
      · obtain ⟨k, v, e⟩ := hin b hb
        rw [e]
        show ltP (path ++ [i]) _ = true
        rw [ltP_pre]
        show (decide (i < i) || (decide (i = i) && ltP [] (k :: v))) = true
        rw [decide_eq_true (rfl : i = i)]
        show (_ || (true && true)) = true
        simp
      · obtain ⟨k, v, hk, e⟩ := items_begin ds (i + 1) hb
        rw [e]
        exact ltP_idx (by omega)
    · unfold inW
      split
      · exact blocks_asc rec _ _
      · exact .nil
    · obtain ⟨k, v, e⟩ := hin a ha
      obtain ⟨k2, v2, h2, e2⟩ := items_begin ds (i + 1) hb
      rw [e, e2]
      exact ltP_idx (by omega)
theorem rows_asc : ∀ {m : Nat} {b : DT} {path : List Nat} {lp : Bool}, Asc (rowsW m b path lp)
  | 0, _, _, _ => .nil
  | m + 1, b, path, lp => items_asc (fun {_ _ _} => rows_asc) (listB b) 0
theorem find_least {p : WRow → Bool} : ∀ {l : List WRow}, Asc l → ∀ {r : WRow}, l.find? p = some r → ∀ q ∈ l, p q = true → q = r ∨ ltP r.1 q.1 = true
  | [], _, _, h, _, _, _ => by cases h
  | x :: l, a, r, h, q, hq, hp => by
    obtain ⟨a1, a2⟩ := List.pairwise_cons.mp a
    rw [List.find?_cons] at h
    cases c : p x with
    | true =>
      rw [c] at h
      obtain rfl := Option.some.inj h
      rcases List.mem_cons.mp hq with e | hq
      · exact .inl e
      · exact .inr (a1 q hq)
    | false =>
      rw [c] at h
      rcases List.mem_cons.mp hq with e | hq
      · rw [e, c] at hp
        cases hp
      · exact find_least a2 h q hq hp
end Oh
namespace Oh
open PySem PySem.Spec PyProof.Rows L2 PpSet
/-- the item at a path, through statements alone -/
def atW : DT → List Nat → Option DT
  | _, [] => none
  | b, [i] => (listB b)[i]?
  | b, i :: j :: w => match (listB b)[i]? with
    | none => none
    | some d => if stmtB d = true then (match (blocksB d)[j]? with
      | none => none
      | some c => atW c w) else none
theorem at_cons {b d c : DT} {i j : Nat} {w : List Nat} (h1 : (listB b)[i]? = some d) (h2 : stmtB d = true) (h3 : (blocksB d)[j]? = some c) : atW b (i :: j :: w) = atW c w := by
  conv => lhs; unfold atW
  rw [h1]
  show (if stmtB d = true then _ else none) = _
  rw [if_pos h2, h3]
theorem at_inv {b x : DT} {i j : Nat} {w : List Nat} (h : atW b (i :: j :: w) = some x) : ∃ d c, (listB b)[i]? = some d ∧ stmtB d = true ∧ (blocksB d)[j]? = some c ∧ atW c w = some x := by
  unfold atW at h
  cases h1 : (listB b)[i]? with
  | none => rw [h1] at h; cases h
  | some d =>
    rw [h1] at h
    have h : (if stmtB d = true then (match (blocksB d)[j]? with
      | none => none
      | some c => atW c w) else none) = some x := h
    cases h2 : stmtB d with
    | false => rw [h2, if_neg (by decide)] at h; cases h
    | true =>
      rw [h2, if_pos rfl] at h
      cases h3 : (blocksB d)[j]? with
      | none => rw [h3] at h; cases h
      | some c =>
        rw [h3] at h
        exact ⟨d, c, rfl, h2, h3, h⟩
theorem rows_at : ∀ {m : Nat} {b : DT} {path : List Nat} {lp : Bool} {r : WRow}, r ∈ rowsW m b path lp → ∃ v, r.1 = path ++ v ∧ atW b v = some r.2.1
  | 0, _, _, _, _, h => by cases h
  | m + 1, b, path, lp, r, h => by
    have key : ∀ (ds : List DT) (i : Nat), (∀ k, ds[k]? = (listB b)[i + k]?) → r ∈ itemsW (rowsW m) path lp ds i → ∃ v, r.1 = path ++ v ∧ atW b v = some r.2.1 := by
      intro ds
      induction ds with
      | nil => intro i _ h; cases h
      | cons d ds ih =>
        intro i hi h
        have hd : (listB b)[i]? = some d := (hi 0).symm
        unfold itemsW at h
        rcases List.mem_cons.mp h with rfl | h
        · exact ⟨[i], rfl, hd⟩
        rcases List.mem_append.mp h with h | h
        · unfold inW at h
          split at h
          · rename_i hs
            have kb : ∀ (cs : List DT) (j : Nat), (∀ k, cs[k]? = (blocksB d)[j + k]?) → r ∈ blocksW (rowsW m) (path ++ [i]) (lp || decide (headB d = "repeat")) cs j → ∃ v, r.1 = path ++ v ∧ atW b v = some r.2.1 := by
              intro cs
              induction cs with
              | nil => intro j _ h; cases h
              | cons c cs ih2 =>
                intro j hj h
                unfold blocksW at h
                rcases List.mem_append.mp h with h | h
                · obtain ⟨v, e, ev⟩ := rows_at h
                  exact ⟨i :: j :: v, by rw [e]; simp, (at_cons hd hs (hj 0).symm).trans ev⟩
                · exact ih2 (j + 1) (fun k => by rw [show j + 1 + k = j + (k + 1) by omega]; exact hj (k + 1)) h
            exact kb _ 0 (fun k => by rw [Nat.zero_add]) h
          · cases h
        · exact ih (i + 1) (fun k => by rw [show i + 1 + k = i + (k + 1) by omega]; exact hi (k + 1)) h
    exact key (listB b) 0 (fun k => by rw [Nat.zero_add]) h
theorem blocks_mem {m : Nat} {here : List Nat} {lp : Bool} {r : WRow} {c : DT} : ∀ (cs : List DT) (j k : Nat), cs[k]? = some c → r ∈ rowsW m c (here ++ [j + k]) lp → r ∈ blocksW (rowsW m) here lp cs j
  | [], _, _, h, _ => by cases h
  | x :: cs, j, 0, h, hr => by
    obtain rfl := Option.some.inj (show some x = some c from h)
    unfold blocksW
    exact List.mem_append_left _ hr
  | x :: cs, j, k + 1, h, hr => by
    unfold blocksW
    exact List.mem_append_right _ (blocks_mem cs (j + 1) k (by simpa using h) (by rw [show j + 1 + k = j + (k + 1) by omega]; exact hr))
theorem items_mem {m : Nat} {path : List Nat} {lp : Bool} {d : DT} : ∀ (ds : List DT) (i k : Nat), ds[k]? = some d → (path ++ [i + k], d, lp) ∈ itemsW (rowsW m) path lp ds i ∧ ∀ r ∈ inW (rowsW m) (path ++ [i + k]) lp d, r ∈ itemsW (rowsW m) path lp ds i
  | [], _, _, h => by cases h
  | x :: ds, i, 0, h => by
    obtain rfl := Option.some.inj (show some x = some d from h)
    unfold itemsW
    exact ⟨List.mem_cons_self, fun r hr => List.mem_cons_of_mem _ (List.mem_append_left _ hr)⟩
  | x :: ds, i, k + 1, h => by
    obtain ⟨z1, z2⟩ := items_mem (m := m) (path := path) (lp := lp) ds (i + 1) k (by simpa using h)
    rw [show i + 1 + k = i + (k + 1) by omega] at z1 z2
    unfold itemsW
    exact ⟨List.mem_cons_of_mem _ (List.mem_append_right _ z1), fun r hr => List.mem_cons_of_mem _ (List.mem_append_right _ (z2 r hr))⟩
theorem at_rows : ∀ {m : Nat} {v : List Nat} {b : DT} {path : List Nat} {lp : Bool} {d : DT}, depW m b → atW b v = some d → ∃ lp', (path ++ v, d, lp') ∈ rowsW m b path lp
  | 0, _, _, _, _, _, h, _ => h.elim
  | _ + 1, [], _, _, _, _, _, h => by cases h
  | m + 1, [i], b, path, lp, d, _, h => by
    have z := (items_mem (m := m) (path := path) (lp := lp) (listB b) 0 i h).1
    rw [Nat.zero_add] at z
    exact ⟨lp, z⟩
  | m + 1, i :: j :: w, b, path, lp, x, hd, h => by
    obtain ⟨d, c, h1, h2, h3, h4⟩ := at_inv h
    obtain ⟨lp', z⟩ := at_rows (m := m) (path := path ++ [i] ++ [j]) (lp := lp || decide (headB d = "repeat")) (hd d (List.mem_of_getElem? h1) h2 c (List.mem_of_getElem? h3)) h4
    refine ⟨lp', ?_⟩
    have y := (items_mem (m := m) (path := path) (lp := lp) (listB b) 0 i h1).2
    rw [Nat.zero_add] at y
    refine y _ ?_
    unfold inW
    rw [if_pos h2]
    refine blocks_mem (blocksB d) 0 j h3 ?_
    rw [Nat.zero_add]
    rw [show path ++ i :: j :: w = path ++ [i] ++ [j] ++ w by simp]
    exact z
/-! ### how many -/
def wtW (f : DT → Nat) (d : DT) : Nat := 1 + if stmtB d = true then ((blocksB d).map f).sum else 0
def cntW : Nat → DT → Nat
  | 0 => fun _ => 0
  | m + 1 => fun b => ((listB b).map (wtW (cntW m))).sum
theorem rows_len : ∀ {m : Nat} {b : DT} {path : List Nat} {lp : Bool}, (rowsW m b path lp).length = cntW m b
  | 0, _, _, _ => rfl
  | m + 1, b, path, lp => by
    have hb : ∀ (here : List Nat) (lp : Bool) (cs : List DT) (j : Nat), (blocksW (rowsW m) here lp cs j).length = (cs.map (cntW m)).sum := by
      intro here lp cs
      induction cs with
      | nil => intro j; rfl
      | cons c cs ih =>
        intro j
        unfold blocksW
        rw [List.length_append, rows_len, ih, List.map_cons, List.sum_cons]
    have hi : ∀ (ds : List DT) (i : Nat), (itemsW (rowsW m) path lp ds i).length = (ds.map (wtW (cntW m))).sum := by
      intro ds
      induction ds with
      | nil => intro i; rfl
      | cons d ds ih =>
        intro i
        unfold itemsW
        rw [List.length_cons, List.length_append, ih, List.map_cons, List.sum_cons]
        have e : (inW (rowsW m) (path ++ [i]) lp d).length = if stmtB d = true then ((blocksB d).map (cntW m)).sum else 0 := by
          unfold inW
          split
          · exact hb _ _ _ _
          · rfl
        rw [e]
        show _ = (1 + _) + _
        omega
    exact hi (listB b) 0
theorem count_good : ∀ {m : Nat} {b : DT}, goodR m b = true → countR m b = cntW m b
  | 0, _, h => by cases h
  | m + 1, b, h => by
    obtain ⟨l, rfl, _, z⟩ := good_inv h
    show (l.map fun d => 1 + ((blocksB d).map (countR m)).sum).sum = (l.map (wtW (cntW m))).sum
    refine congrArg List.sum (List.map_congr_left fun d hd => ?_)
    unfold wtW
    rw [if_pos (z d hd).1, List.map_congr_left fun c hc => count_good ((z d hd).2 c hc)]
theorem sum_set (k : Nat) : ∀ (l : List Nat) (i y : Nat), (∀ z, l[i]? = some z → y ≤ z + k) → (l.set i y).sum ≤ l.sum + k
  | [], _, _, _ => Nat.zero_le _
  | x :: l, 0, y, h => by
    have := h x rfl
    rw [List.set_cons_zero, List.sum_cons, List.sum_cons]
    omega
  | x :: l, i + 1, y, h => by
    have := sum_set k l i y (fun z hz => h z (by simpa using hz))
    rw [List.set_cons_succ, List.sum_cons, List.sum_cons]
    omega
/-! ### another item -/
def rowP (r c : DT) : DT := .tup [argB r 0, argB r 1, c]
def withW (d : DT) (j : Nat) (c : DT) : DT :=
  if headB d = "wait" then waitD ((listB (argB d 1)).set j (rowP ((listB (argB d 1)).getD j .non) c))
  else if headB d = "open" then openD ((listB (argB d 1)).set j c)
  else if headB d = "repeat" then repD c
  else if j = 0 then ifD (argB d 1) c (argB d 3) else ifD (argB d 1) (argB d 2) c
theorem names_if' {e b c : DT} : namesB (ifD e b c) = namesX 4 e := by unfold namesB; rw [if_neg (ne_head (by decide)), if_neg (ne_head (by decide)), if_pos (eq_head rfl)]; rfl
theorem names_no {d : DT} {h : Str} (e : headB d = h) (h1 : h ≠ "set") (h2 : h ≠ "tell") (h3 : h ≠ "if") (h4 : h ≠ "hear") (h5 : h ≠ "wait") : namesB d = [] := by
  subst e
  unfold namesB
  rw [if_neg h1, if_neg h2, if_neg h3, if_neg h4, if_neg h5]
theorem ports_no {d : DT} {h : Str} (e : headB d = h) (h1 : h ≠ "tell") (h2 : h ≠ "hear") (h3 : h ≠ "wait") : portsB d = [] := by
  subst e
  unfold portsB
  rw [if_neg (fun z => z.elim h1 h2), if_neg h3]
/-- a statement with another block in it -/
structure WithW (d : DT) (j : Nat) (c e : DT) : Prop where
  st : stmtB e = true
  hd : headB e = headB d
  bl : blocksB e = (blocksB d).set j c
  nm : namesB e = namesB d
  po : portsB e = portsB d
theorem port_rowP {r c : DT} : portB (rowP r c) = portB r := rfl
theorem with_ok {d c0 c : DT} {j : Nat} (hs : stmtB d = true) (hj : (blocksB d)[j]? = some c0) (hc : blockB c = true) : WithW d j c (withW d j c) := by
  obtain ⟨hl, _⟩ := List.getElem?_eq_some_iff.mp hj
  unfold withW
  by_cases c3 : headB d = "wait"
  · obtain ⟨z1, z2, z3, z4⟩ := wait_len hs c3
    obtain ⟨rows, er, l4⟩ := choice_inv z2
    have hbl : blocksB d = rows.map fun r => argB r 2 := by unfold blocksB; rw [if_neg (by rw [c3]; decide), if_neg (by rw [c3]; decide), if_neg (by rw [c3]; decide), if_pos c3, er]; rfl
    have e1 : listB (argB d 1) = rows := by rw [er]; rfl
    rw [if_pos c3, e1]
    rw [e1] at z3 z4
    have hj2 : j < rows.length := by rw [hbl, List.length_map] at hl; exact hl
    have eg : rows.getD j .non = rows[j] := by rw [List.getD_eq_getElem?_getD, List.getElem?_eq_getElem hj2]; rfl
    rw [eg]
    have hr := z3 rows[j] (List.getElem_mem hj2)
    have zn := row_names hr
    have hrow : rowB (rowP rows[j] c) = true := by
      show (true && (nameB (argB rows[j] 0) && (nameB (argB rows[j] 1) && blockB c))) = true
      rw [zn.1, zn.2, hc]
      rfl
    have hp : (rows.set j (rowP rows[j] c)).map portB = rows.map portB := by
      rw [List.map_set, port_rowP]
      exact List.ext_getElem? fun k => by
        rw [List.getElem?_set]
        split
        · rename_i e
          subst e
          rw [if_pos (by rw [List.length_map]; exact hj2), List.getElem?_map, List.getElem?_eq_getElem hj2]
          rfl
        · rfl
    refine ⟨?_, ?_, ?_, ?_, ?_⟩
    · rw [stmt_wait, hp, decide_eq_true z4]
      have h1 : choiceB (.tup (rows.set j (rowP rows[j] c))) = true := by
        rw [er] at z2
        have z2 : (decide (1 ≤ rows.length) && decide (rows.length ≤ 4)) = true := z2
        show (decide (1 ≤ (rows.set j (rowP rows[j] c)).length) && decide ((rows.set j (rowP rows[j] c)).length ≤ 4)) = true
        rw [List.length_set]
        exact z2
      rw [h1, show ((rows.set j (rowP rows[j] c)).map rowB).all id = true from List.all_eq_true.mpr fun x hx => by
        obtain ⟨r, mr, rfl⟩ := List.mem_map.mp hx
        rcases List.mem_or_eq_of_mem_set mr with mr | rfl
        · exact z3 r mr
        · exact hrow]
      rfl
    · exact c3.symm
    · rw [blocks_wait, hbl, List.map_set]
      rfl
    · rw [show namesB d = (listB (argB d 1)).map (fun r => strB (argB r 1)) by
        unfold namesB
        rw [if_neg (by rw [c3]; decide), if_neg (by rw [c3]; decide), if_neg (by rw [c3]; decide), if_neg (by rw [c3]; decide), if_pos c3], e1]
      show (rows.set j (rowP rows[j] c)).map (fun r => strB (argB r 1)) = _
      rw [List.map_set]
      exact List.ext_getElem? fun k => by
        rw [List.getElem?_set]
        split
        · rename_i e
          subst e
          rw [if_pos (by rw [List.length_map]; exact hj2), List.getElem?_map, List.getElem?_eq_getElem hj2]
          rfl
        · rfl
    · rw [show portsB d = (listB (argB d 1)).map portB by
        unfold portsB
        rw [if_neg (by rw [c3]; decide), if_pos c3], e1]
      exact hp
  rw [if_neg c3]
  by_cases c4 : headB d = "open"
  · obtain ⟨z1, z2, z3⟩ := open_len hs c4
    obtain ⟨bs, er, l4⟩ := choice_inv z2
    have hbl : blocksB d = bs := by unfold blocksB; rw [if_neg (by rw [c4]; decide), if_neg (by rw [c4]; decide), if_pos c4, er]; rfl
    have e1 : listB (argB d 1) = bs := by rw [er]; rfl
    rw [if_pos c4, e1]
    rw [e1] at z3
    refine ⟨?_, c4.symm, ?_, ?_, ?_⟩
    · rw [stmt_open]
      have h1 : choiceB (.tup (bs.set j c)) = true := by
        rw [er] at z2
        have z2 : (decide (1 ≤ bs.length) && decide (bs.length ≤ 4)) = true := z2
        show (decide (1 ≤ (bs.set j c).length) && decide ((bs.set j c).length ≤ 4)) = true
        rw [List.length_set]
        exact z2
      rw [h1, show ((bs.set j c).map blockB).all id = true from List.all_eq_true.mpr fun x hx => by
        obtain ⟨r, mr, rfl⟩ := List.mem_map.mp hx
        rcases List.mem_or_eq_of_mem_set mr with mr | rfl
        · exact z3 r mr
        · exact hc]
      rfl
    · rw [blocks_open, hbl]
    · rw [names_no c4 (by decide) (by decide) (by decide) (by decide) (by decide), names_no (d := openD _) (h := "open") rfl (by decide) (by decide) (by decide) (by decide) (by decide)]
    · rw [ports_no c4 (by decide) (by decide) (by decide), ports_no (d := openD _) (h := "open") rfl (by decide) (by decide) (by decide)]
  rw [if_neg c4]
  by_cases c6 : headB d = "repeat"
  · rw [if_pos c6]
    have hbl : blocksB d = [argB d 1] := blocks_head c6
    have j0 : j = 0 := by rw [hbl] at hl; exact Nat.lt_one_iff.mp hl
    subst j0
    refine ⟨by rw [stmt_rep]; exact hc, c6.symm, by rw [blocks_rep, hbl]; rfl, ?_, ?_⟩
    · rw [names_no c6 (by decide) (by decide) (by decide) (by decide) (by decide), names_no (d := repD _) (h := "repeat") rfl (by decide) (by decide) (by decide) (by decide) (by decide)]
    · rw [ports_no c6 (by decide) (by decide) (by decide), ports_no (d := repD _) (h := "repeat") rfl (by decide) (by decide) (by decide)]
  rw [if_neg c6]
  have c5 : headB d = "if" := by
    refine Classical.byContradiction fun c5 => ?_
    rw [bl_none c5 c6 c4 c3] at hl
    exact absurd hl (Nat.not_lt_zero _)
  obtain ⟨z1, z2, z3, z4⟩ := if_len hs c5
  have hbl : blocksB d = [argB d 2, argB d 3] := by unfold blocksB; rw [if_pos c5]
  have j2 : j = 0 ∨ j = 1 := by
    have : j < 2 := by rw [hbl] at hl; exact hl
    omega
  have fin : ∀ x y, blockB x = true → blockB y = true → stmtB (ifD (argB d 1) x y) = true ∧ namesB (ifD (argB d 1) x y) = namesB d ∧ portsB (ifD (argB d 1) x y) = portsB d := fun x y hx hy => by
    refine ⟨by rw [stmt_if, z4, hx, hy]; rfl, ?_, ?_⟩
    · rw [names_if']
      conv => rhs; unfold namesB
      rw [if_neg (by rw [c5]; decide), if_neg (by rw [c5]; decide), if_pos c5]
    · rw [ports_no c5 (by decide) (by decide) (by decide), ports_no (d := ifD _ _ _) (h := "if") rfl (by decide) (by decide) (by decide)]
  rcases j2 with rfl | rfl
  · rw [if_pos rfl]
    obtain ⟨f1, f2, f3⟩ := fin c (argB d 3) hc z3
    exact ⟨f1, c5.symm, by rw [blocks_if, hbl]; rfl, f2, f3⟩
  · rw [if_neg (by decide)]
    obtain ⟨f1, f2, f3⟩ := fin (argB d 2) c z2 hc
    exact ⟨f1, c5.symm, by rw [blocks_if, hbl]; rfl, f2, f3⟩
end Oh
namespace Oh
open PySem PySem.Spec PyProof.Rows L2 PpSet
theorem row_block {r : DT} (h : rowB r = true) : blockB (argB r 2) = true := by
  obtain ⟨_, h⟩ := Bool.and_eq_true_iff.mp h
  obtain ⟨_, h⟩ := Bool.and_eq_true_iff.mp h
  exact (Bool.and_eq_true_iff.mp h).2
theorem stmt_blocks {d c : DT} (hs : stmtB d = true) (hc : c ∈ blocksB d) : blockB c = true := by
  by_cases c5 : headB d = "if"
  · obtain ⟨_, z2, z3, _⟩ := if_len hs c5
    have hbl : blocksB d = [argB d 2, argB d 3] := by unfold blocksB; rw [if_pos c5]
    rw [hbl] at hc
    rcases List.mem_cons.mp hc with rfl | hc
    · exact z2
    · rw [List.mem_singleton.mp hc]
      exact z3
  by_cases c6 : headB d = "repeat"
  · rw [blocks_head c6] at hc
    rw [List.mem_singleton.mp hc]
    exact (repeat_len hs c6).2
  by_cases c4 : headB d = "open"
  · obtain ⟨_, _, z3⟩ := open_len hs c4
    have hbl : blocksB d = listB (argB d 1) := by unfold blocksB; rw [if_neg c5, if_neg c6, if_pos c4]
    rw [hbl] at hc
    exact z3 c hc
  by_cases c3 : headB d = "wait"
  · obtain ⟨_, _, z3, _⟩ := wait_len hs c3
    have hbl : blocksB d = (listB (argB d 1)).map fun r => argB r 2 := by unfold blocksB; rw [if_neg c5, if_neg c6, if_neg c4, if_pos c3]
    rw [hbl] at hc
    obtain ⟨r, mr, rfl⟩ := List.mem_map.mp hc
    exact row_block (z3 r mr)
  · rw [bl_none c5 c6 c4 c3] at hc
    cases hc
/-- another item at a path -/
def putW : DT → List Nat → DT → DT
  | b, [], _ => b
  | b, [i], x => .tup ((listB b).set i x)
  | b, i :: j :: w, x => match (listB b)[i]? with
    | none => b
    | some d => match (blocksB d)[j]? with
      | none => b
      | some c => .tup ((listB b).set i (withW d j (putW c w x)))
theorem put_cons {b d c x : DT} {i j : Nat} {w : List Nat} (h1 : (listB b)[i]? = some d) (h3 : (blocksB d)[j]? = some c) : putW b (i :: j :: w) x = .tup ((listB b).set i (withW d j (putW c w x))) := by
  conv => lhs; unfold putW
  rw [h1]
  show (match (blocksB d)[j]? with
      | none => b
      | some c => DT.tup ((listB b).set i (withW d j (putW c w x)))) = _
  rw [h3]
theorem put_block {b x d0 : DT} {w : List Nat} (hb : blockB b = true) (h : atW b w = some d0) : blockB (putW b w x) = true := by
  obtain ⟨l, rfl, l12⟩ := block_inv hb
  match w, h with
  | [i], _ => exact decide_eq_true (by rw [List.length_set]; exact l12)
  | i :: j :: w, h =>
    obtain ⟨d, c, h1, h2, h3, h4⟩ := at_inv h
    rw [put_cons h1 h3]
    exact decide_eq_true (by rw [List.length_set]; exact l12)
theorem put_with {d c x d0 : DT} {j : Nat} {w : List Nat} (h2 : stmtB d = true) (h3 : (blocksB d)[j]? = some c) (h4 : atW c w = some d0) : WithW d j (putW c w x) (withW d j (putW c w x)) :=
  with_ok h2 h3 (put_block (stmt_blocks h2 (List.mem_of_getElem? h3)) h4)
def AllAt (q : DT → Prop) (b : DT) : Prop := ∀ v d, atW b v = some d → q d
theorem set_get {l : List DT} {i k : Nat} {x y : DT} (h : (l.set i x)[k]? = some y) : (k = i ∧ y = x) ∨ (k ≠ i ∧ l[k]? = some y) := by
  rw [List.getElem?_set] at h
  split at h
  · rename_i e
    split at h
    · exact .inl ⟨e.symm, (Option.some.inj h).symm⟩
    · cases h
  · rename_i e
    exact .inr ⟨fun z => e z.symm, h⟩
theorem put_all {q : DT → Prop} {x : DT} (hq : ∀ d j c e, WithW d j c e → q d → q e) (hx : q x) (hi : stmtB x = true → ∀ c ∈ blocksB x, AllAt q c) : ∀ {w : List Nat} {b d0 : DT}, atW b w = some d0 → AllAt q b → AllAt q (putW b w x)
  | [i], b, d0, h, hb, v, y, hv => by
    rw [show putW b [i] x = .tup ((listB b).set i x) from rfl] at hv
    match v, hv with
    | [k], hv =>
      rcases set_get hv with ⟨_, rfl⟩ | ⟨_, e⟩
      · exact hx
      · exact hb [k] y e
    | k :: l :: v, hv =>
      obtain ⟨d, c, h1, h2, h3, h4⟩ := at_inv hv
      rcases set_get h1 with ⟨_, rfl⟩ | ⟨_, e⟩
      · exact hi h2 c (List.mem_of_getElem? h3) v y h4
      · exact hb (k :: l :: v) y ((at_cons e h2 h3).trans h4)
  | i :: j :: w, b, d0, h, hb, v, y, hv => by
    obtain ⟨d, c, h1, h2, h3, h4⟩ := at_inv h
    have W := put_with (x := x) h2 h3 h4
    rw [put_cons h1 h3] at hv
    match v, hv with
    | [k], hv =>
      rcases set_get hv with ⟨_, rfl⟩ | ⟨_, e⟩
      · exact hq _ _ _ _ W (hb [i] d h1)
      · exact hb [k] y e
    | k :: l :: v, hv =>
      obtain ⟨e, ce, g1, g2, g3, g4⟩ := at_inv hv
      rcases set_get g1 with ⟨_, rfl⟩ | ⟨_, e1⟩
      · rw [W.bl] at g3
        rcases set_get g3 with ⟨_, rfl⟩ | ⟨_, e3⟩
        · exact put_all hq hx hi h4 (fun v' y' hv' => hb (i :: j :: v') y' ((at_cons h1 h2 h3).trans hv')) v y g4
        · exact hb (i :: l :: v) y ((at_cons h1 h2 e3).trans g4)
      · exact hb (k :: l :: v) y ((at_cons e1 g2 g3).trans g4)
/-- an item at this path is no statement -/
def Bad (b : DT) (v : List Nat) : Prop := ∃ d, atW b v = some d ∧ stmtB d = false
theorem bad_one {b : DT} {k : Nat} : Bad b [k] ↔ ∃ d, (listB b)[k]? = some d ∧ stmtB d = false := Iff.rfl
theorem bad_nil {b : DT} : ¬ Bad b [] := fun ⟨_, e, _⟩ => by cases e
theorem bad_cons {b d c : DT} {k l : Nat} {v : List Nat} (h1 : (listB b)[k]? = some d) (h2 : stmtB d = true) (h3 : (blocksB d)[l]? = some c) : Bad b (k :: l :: v) ↔ Bad c v := by
  unfold Bad
  rw [at_cons h1 h2 h3]
theorem bad_cong {b b' : DT} {k l : Nat} {v : List Nat} (e : (listB b')[k]? = (listB b)[k]?) : Bad b' (k :: l :: v) ↔ Bad b (k :: l :: v) := by
  unfold Bad
  have z : atW b' (k :: l :: v) = atW b (k :: l :: v) := by
    conv => lhs; unfold atW
    conv => rhs; unfold atW
    rw [e]
  rw [z]
theorem get_set_ne {l : List DT} {i k : Nat} {x : DT} (h : k ≠ i) : (l.set i x)[k]? = l[k]? := by
  rw [List.getElem?_set, if_neg (fun z => h z.symm)]
theorem get_set_eq {l : List DT} {i : Nat} {x d : DT} (h : l[i]? = some d) : (l.set i x)[i]? = some x := by
  obtain ⟨hl, _⟩ := List.getElem?_eq_some_iff.mp h
  rw [List.getElem?_set, if_pos rfl, if_pos hl]
theorem put_bad {x : DT} (hi : stmtB x = true → ∀ c ∈ blocksB x, ∀ v, ¬ Bad c v) : ∀ {w : List Nat} {b d0 : DT}, atW b w = some d0 → ∀ v, Bad (putW b w x) v ↔ (Bad b v ∧ v.take w.length ≠ w) ∨ (v = w ∧ stmtB x = false)
  | [i], b, d0, h, v => by
    have hs : (((listB b).set i x)[i]?) = some x := get_set_eq h
    match v with
    | [] => exact ⟨fun z => absurd z bad_nil, fun z => z.elim (fun z => absurd z.1 bad_nil) (fun z => by cases z.1)⟩
    | [k] =>
      by_cases hk : k = i
      · subst hk
        refine ⟨fun ⟨d, e, z⟩ => .inr ⟨rfl, ?_⟩, fun z => z.elim (fun z => absurd rfl z.2) fun z => ⟨x, hs, z.2⟩⟩
        obtain rfl := Option.some.inj (hs.symm.trans e)
        exact z
      · refine ⟨fun ⟨d, e, z⟩ => .inl ⟨⟨d, (get_set_ne hk).symm.trans e, z⟩, fun z => hk (List.cons.inj z).1⟩, fun z => z.elim (fun ⟨⟨d, e, z⟩, _⟩ => ⟨d, (get_set_ne hk).trans e, z⟩) fun z => absurd (List.cons.inj z.1).1 hk⟩
    | k :: l :: v =>
      by_cases hk : k = i
      · subst hk
        refine ⟨fun ⟨d, e, z⟩ => ?_, fun z => z.elim (fun z => absurd rfl z.2) fun z => by cases z.1⟩
        obtain ⟨d1, c1, g1, g2, g3, g4⟩ := at_inv e
        obtain rfl := Option.some.inj (hs.symm.trans g1)
        exact absurd ⟨d, g4, z⟩ (hi g2 c1 (List.mem_of_getElem? g3) v)
      · refine (bad_cong (b' := .tup ((listB b).set i x)) (get_set_ne hk)).trans ⟨fun z => .inl ⟨z, fun z => hk (List.cons.inj z).1⟩, fun z => z.elim (fun z => z.1) fun z => by cases z.1⟩
  | i :: j :: w, b, d0, h, v => by
    obtain ⟨d, c, h1, h2, h3, h4⟩ := at_inv h
    have W := put_with (x := x) h2 h3 h4
    rw [put_cons h1 h3]
    have hs : (((listB b).set i (withW d j (putW c w x)))[i]?) = some (withW d j (putW c w x)) := get_set_eq h1
    match v with
    | [] => exact ⟨fun z => absurd z bad_nil, fun z => z.elim (fun z => absurd z.1 bad_nil) (fun z => by cases z.1)⟩
    | [k] =>
      by_cases hk : k = i
      · subst hk
        refine ⟨fun ⟨e, g, z⟩ => ?_, fun z => z.elim (fun ⟨⟨e, g, z⟩, _⟩ => ?_) fun z => by cases z.1⟩
        · obtain rfl := Option.some.inj (hs.symm.trans g)
          rw [W.st] at z
          cases z
        · obtain rfl := Option.some.inj (h1.symm.trans g)
          rw [h2] at z
          cases z
      · refine ⟨fun ⟨d, e, z⟩ => .inl ⟨⟨d, (get_set_ne hk).symm.trans e, z⟩, fun z => hk (List.cons.inj z).1⟩, fun z => z.elim (fun ⟨⟨d, e, z⟩, _⟩ => ⟨d, (get_set_ne hk).trans e, z⟩) fun z => by cases z.1⟩
    | k :: l :: v =>
      by_cases hk : k = i
      · subst hk
        by_cases hl : l = j
        · subst hl
          have e1 : Bad (.tup ((listB b).set k (withW d l (putW c w x)))) (k :: l :: v) ↔ Bad (putW c w x) v := bad_cons hs W.st (by rw [W.bl]; exact get_set_eq h3)
          rw [e1, put_bad hi h4 v, bad_cons h1 h2 h3]
          have e2 : (k :: l :: v).take (k :: l :: w).length = k :: l :: v.take w.length := rfl
          rw [e2]
          constructor
          · rintro (⟨z1, z2⟩ | ⟨z1, z2⟩)
            · exact .inl ⟨z1, fun z => z2 (List.cons.inj (List.cons.inj z).2).2⟩
            · exact .inr ⟨by rw [z1], z2⟩
          · rintro (⟨z1, z2⟩ | ⟨z1, z2⟩)
            · exact .inl ⟨z1, fun z => z2 (by rw [z])⟩
            · exact .inr ⟨(List.cons.inj (List.cons.inj z1).2).2, z2⟩
        · have ne : (k :: l :: v).take (k :: j :: w).length ≠ k :: j :: w := fun z => hl (List.cons.inj (List.cons.inj z).2).1
          have key : Bad (.tup ((listB b).set k (withW d j (putW c w x)))) (k :: l :: v) ↔ Bad b (k :: l :: v) := by
            constructor
            · rintro ⟨y, e, z⟩
              obtain ⟨d1, c1, g1, g2, g3, g4⟩ := at_inv e
              obtain rfl := Option.some.inj (hs.symm.trans g1)
              rw [W.bl, get_set_ne hl] at g3
              exact (bad_cons h1 h2 g3).mpr ⟨y, g4, z⟩
            · rintro ⟨y, e, z⟩
              obtain ⟨d1, c1, g1, g2, g3, g4⟩ := at_inv e
              obtain rfl := Option.some.inj (h1.symm.trans g1)
              exact (bad_cons (b := .tup ((listB b).set k (withW d j (putW c w x)))) hs W.st (by rw [W.bl, get_set_ne hl]; exact g3)).mpr ⟨y, g4, z⟩
          exact key.trans ⟨fun z => .inl ⟨z, ne⟩, fun z => z.elim (fun z => z.1) fun z => absurd (List.cons.inj (List.cons.inj z.1).2).1 hl⟩
      · refine (bad_cong (b := b) (get_set_ne hk)).trans ⟨fun z => .inl ⟨z, fun z => hk (List.cons.inj z).1⟩, fun z => z.elim (fun z => z.1) fun z => absurd (List.cons.inj z.1).1 hk⟩
theorem put_dep {x : DT} {k : Nat} (hi : stmtB x = true → ∀ c ∈ blocksB x, depW k c) : ∀ {w : List Nat} {b d0 : DT} {m : Nat}, atW b w = some d0 → depW m b → depW (m + k) (putW b w x)
  | _, _, _, 0, _, hb => hb.elim
  | [i], b, d0, m + 1, h, hb => by
    rw [show m + 1 + k = (m + k) + 1 by omega]
    intro d hd hs c hc
    rcases List.mem_or_eq_of_mem_set (show d ∈ (listB b).set i x from hd) with hd | rfl
    · exact dep_up (by omega) (hb d hd hs c hc)
    · exact dep_up (by omega) (hi hs c hc)
  | i :: j :: w, b, d0, m + 1, h, hb => by
    obtain ⟨d, c, h1, h2, h3, h4⟩ := at_inv h
    have W := put_with (x := x) h2 h3 h4
    rw [put_cons h1 h3, show m + 1 + k = (m + k) + 1 by omega]
    intro e he hs y hy
    rcases List.mem_or_eq_of_mem_set (show e ∈ (listB b).set i _ from he) with he | rfl
    · exact dep_up (by omega) (hb e he hs y hy)
    · rw [W.bl] at hy
      rcases List.mem_or_eq_of_mem_set hy with hy | rfl
      · exact dep_up (by omega) (hb d (List.mem_of_getElem? h1) h2 y hy)
      · exact put_dep hi h4 (hb d (List.mem_of_getElem? h1) h2 c (List.mem_of_getElem? h3))
theorem put_cnt {x : DT} {k : Nat} (hx : ∀ m, wtW (cntW m) x ≤ k) : ∀ {w : List Nat} {b d0 : DT} {m : Nat}, atW b w = some d0 → cntW m (putW b w x) ≤ cntW m b + k
  | _, _, _, 0, _ => Nat.zero_le _
  | [i], b, d0, m + 1, h => by
    show (((listB b).set i x).map (wtW (cntW m))).sum ≤ ((listB b).map (wtW (cntW m))).sum + k
    rw [List.map_set]
    exact sum_set k _ _ _ fun z _ => Nat.le_trans (hx m) (by omega)
  | i :: j :: w, b, d0, m + 1, h => by
    obtain ⟨d, c, h1, h2, h3, h4⟩ := at_inv h
    have W := put_with (x := x) h2 h3 h4
    rw [put_cons h1 h3]
    show (((listB b).set i (withW d j (putW c w x))).map (wtW (cntW m))).sum ≤ ((listB b).map (wtW (cntW m))).sum + k
    rw [List.map_set]
    refine sum_set k _ _ _ fun z hz => ?_
    rw [List.getElem?_map, h1] at hz
    obtain rfl := Option.some.inj hz
    unfold wtW
    rw [if_pos W.st, if_pos h2, W.bl, List.map_set]
    have := sum_set k ((blocksB d).map (cntW m)) j (cntW m (putW c w x)) fun z hz => by
      rw [List.getElem?_map, h3] at hz
      obtain rfl := Option.some.inj hz
      exact put_cnt hx h4
    omega
end Oh
namespace Oh
open PySem PySem.Spec PyProof.Rows L2 PpSet
theorem expr_digit {n : Nat} {d : DT} (h : digitB d = true) : exprB n d = true := by
  cases n <;> (unfold exprB; rw [h]; rfl)
theorem digit_int {i : Int} (h0 : 0 ≤ i) (h1 : i ≤ 9) : digitB (.int i) = true := by
  show (decide (0 ≤ i) && decide (i ≤ 9)) = true
  rw [decide_eq_true h0, decide_eq_true h1]
  rfl
theorem namesX_digit {n : Nat} {d : DT} (h : digitB d = true) : namesX n d = [] := by
  cases n <;> (unfold namesX; rw [if_pos h])
theorem expr_nameD {n : Nat} {s : Str} (h : nameB (.str s) = true) : exprB n (nameD s) = true := by
  rw [expr_name (eq_head rfl)]
  show (false || (true && nameB (.str s))) = true
  rw [h]
  rfl
theorem namesX_name {n : Nat} {s : Str} : namesX n (nameD s) = [s] := by
  cases n with
  | zero => unfold namesX; rw [if_neg (show ¬ digitB (nameD s) = true from (by intro z; cases z))]; rfl
  | succ n => unfold namesX; rw [if_neg (show ¬ digitB (nameD s) = true from (by intro z; cases z)), if_pos (eq_head rfl)]; rfl
theorem names_set {n : Str} {e : DT} : namesB (setD n e) = n :: namesX 4 e := by unfold namesB; rw [if_pos (eq_head rfl)]; rfl
theorem names_tell {n : Str} {e : DT} : namesB (tellD n e) = namesX 4 e := by unfold namesB; rw [if_neg (ne_head (by decide)), if_pos (eq_head rfl)]; rfl
theorem names_if {e b c : DT} : namesB (ifD e b c) = namesX 4 e := by unfold namesB; rw [if_neg (ne_head (by decide)), if_neg (ne_head (by decide)), if_pos (eq_head rfl)]; rfl
theorem names_hear {p n : Str} : namesB (hearD p n) = [n] := by unfold namesB; rw [if_neg (ne_head (by decide)), if_neg (ne_head (by decide)), if_neg (ne_head (by decide)), if_pos (eq_head rfl)]; rfl
theorem names_wait {rs : List DT} : namesB (waitD rs) = rs.map fun r => strB (argB r 1) := by unfold namesB; rw [if_neg (ne_head (by decide)), if_neg (ne_head (by decide)), if_neg (ne_head (by decide)), if_neg (ne_head (by decide)), if_pos (eq_head rfl)]; rfl
theorem names_other {h : Str} {l : List DT} (h1 : h ≠ "set") (h2 : h ≠ "tell") (h3 : h ≠ "if") (h4 : h ≠ "hear") (h5 : h ≠ "wait") : namesB (.tup (.str h :: l)) = [] := by
  unfold namesB; rw [if_neg (ne_head h1), if_neg (ne_head h2), if_neg (ne_head h3), if_neg (ne_head h4), if_neg (ne_head h5)]
theorem ports_tell {n : Str} {e : DT} : portsB (tellD n e) = [n] := by unfold portsB; rw [if_pos (Or.inl (eq_head rfl))]; rfl
theorem ports_hear {p n : Str} : portsB (hearD p n) = [p] := by unfold portsB; rw [if_pos (Or.inr (eq_head rfl))]; rfl
theorem ports_wait {rs : List DT} : portsB (waitD rs) = rs.map portB := by unfold portsB; rw [if_neg (fun z => z.elim (ne_head (by decide)) (ne_head (by decide))), if_pos (eq_head rfl)]; rfl
theorem ports_other {h : Str} {l : List DT} (h1 : h ≠ "tell") (h2 : h ≠ "hear") (h3 : h ≠ "wait") : portsB (.tup (.str h :: l)) = [] := by
  unfold portsB; rw [if_neg (fun z => z.elim (ne_head h1) (ne_head h2)), if_neg (ne_head h3)]
theorem mem1 {S : List Str} {n : Str} (h : n ∈ S) : ∀ k ∈ [n], k ∈ S := fun k hk => by
  rcases List.mem_cons.mp hk with rfl | hk
  · exact h
  · cases hk
theorem mem0 {S : List Str} {l : List Str} (e : l = []) : ∀ k ∈ l, k ∈ S := fun k hk => by rw [e] at hk; cases hk
theorem np_of {S1 S2 : List Str} {d : DT} {l1 l2 : List Str} (e1 : namesB d = l1) (e2 : portsB d = l2) (h1 : ∀ k ∈ l1, k ∈ S1) (h2 : ∀ k ∈ l2, k ∈ S2) : NP S1 S2 d := by
  subst e1 e2
  exact ⟨h1, h2⟩
theorem memc {S : List Str} {n : Str} {l : List Str} (h : n ∈ S) (t : ∀ k ∈ l, k ∈ S) : ∀ k ∈ n :: l, k ∈ S := fun k hk => by
  rcases List.mem_cons.mp hk with rfl | hk
  · exact h
  · exact t k hk
theorem np_set {S1 S2 : List Str} {n : Str} {e : DT} (h1 : n ∈ S1) (h2 : ∀ k ∈ namesX 4 e, k ∈ S1) : NP S1 S2 (setD n e) := np_of names_set (ports_other (by decide) (by decide) (by decide)) (memc h1 h2) (mem0 rfl)
theorem np_tell {S1 S2 : List Str} {p : Str} {e : DT} (h1 : p ∈ S2) (h2 : ∀ k ∈ namesX 4 e, k ∈ S1) : NP S1 S2 (tellD p e) := np_of names_tell ports_tell h2 (mem1 h1)
theorem np_hear {S1 S2 : List Str} {p n : Str} (h1 : p ∈ S2) (h2 : n ∈ S1) : NP S1 S2 (hearD p n) := np_of names_hear ports_hear (mem1 h2) (mem1 h1)
theorem np_if {S1 S2 : List Str} {e b c : DT} (h2 : ∀ k ∈ namesX 4 e, k ∈ S1) : NP S1 S2 (ifD e b c) := np_of names_if (ports_other (by decide) (by decide) (by decide)) h2 (mem0 rfl)
theorem np_other {S1 S2 : List Str} {h : Str} {l : List DT} (h1 : h ≠ "set") (h2 : h ≠ "tell") (h3 : h ≠ "if") (h4 : h ≠ "hear") (h5 : h ≠ "wait") : NP S1 S2 (.tup (.str h :: l)) :=
  np_of (names_other h1 h2 h3 h4 h5) (ports_other h2 h4 h5) (mem0 rfl) (mem0 rfl)
section
variable {K : PySem.W.Frag} {σ : L2.St} {H : Hp}
theorem EvA.lst {ta : TA} {ds : List DT} {Q : VK} (h : EvA K ta σ H ds) (k : ∀ p xs H', Same H H' → H p = none → H' p = some (.lst xs) → RpAll K H' xs ds → Q (.ref p) H') (hl : ds.length ≤ 1000 := by exact Nat.le_of_ble_eq_true rfl) : tLst ta σ H Q :=
  h H (Same.refl H) _ fun vs H2 s2 rs => ⟨by rw [rs.len]; exact small9 hl, fun p np => k p vs _ (s2.trans (Same.new np)) (s2.free np) upd_same (rs.keep (Same.new np))⟩
/-- an item of a written list at a drawn place -/
theorem ix_drawn {ta : TA} {ds : List DT} {Q : VK} {a c : Addr} {m : Int} (S : Src H a c) (h : EvA K ta σ H ds) (e : σ[0]? = some (some (.ref a))) (hm : m = (ds.length : Nat)) (h0 : 0 < ds.length) (hl : ds.length ≤ 1000)
    (k : ∀ (i : Nat) (hi : i < ds.length) v H', Rp K H' v ds[i] → Drw a c H H' → Q v H') : tOp (rIxL K) (tLst ta) (tCall spDraw [] E0 (tCons (tVar 0) (tCons (tC (.int m)) tNil))) σ H Q := by
  refine EvA.lst h (fun p xs H2 s2 np hp ra => ?_) hl
  have S2 := S.same s2
  refine ⟨_, e, a, c, m, rfl, S2, by omega, log2_small (by omega) (by omega), fun g H3 g0 g1 S3 K3 => ?_⟩
  obtain ⟨i, rfl⟩ : ∃ i : Nat, g = (i : Int) := ⟨g.toNat, by omega⟩
  have hi : i < ds.length := by omega
  have d3 : Drw a c H2 H3 := ⟨K3, S3⟩
  -- the list stands: it is no list of the source
  have hp3 : H3 p = some (.lst xs) := K3 p _ hp (free_ne S.some_a np) (free_ne S.some_c np)
  obtain ⟨v, ev, rv⟩ := ra.get (i := i) (d := ds[i]) (List.getElem?_eq_getElem hi)
  exact ⟨p, xs, _, v, rfl, rfl, SqL.of hp3, atI_nat ev, k i hi v H3 (Rp.drw S2 d3 rv) ((Drw.of_same S s2).trans d3)⟩
end
theorem digit_tup {l : List DT} : digitB (.tup l) = false := rfl
theorem expr_op {h : Str} {l : List DT} {p m : Nat} (hn : h ≠ "name") (hp : partsB h = some p) : exprB (m + 1) (.tup (.str h :: l)) = (decide (l.length = p) && (l.map (exprB m)).all id) := by
  rw [expr_some (ne_head hn) hp, digit_tup, Bool.false_or]
  have e : (lenB (.tup (.str h :: l)) == 1 + p) = decide (l.length = p) := by
    show (l.length + 1 == 1 + p) = _
    by_cases c : l.length = p
    · rw [c, decide_eq_true rfl, Nat.add_comm]
      exact beq_self_eq_true _
    · rw [decide_eq_false c]
      exact beq_eq_false_iff_ne.mpr (by omega)
  rw [e]
  rfl
theorem expr_op0 {h : Str} {l : List DT} (hn : h ≠ "name") : exprB 0 (.tup (.str h :: l)) = false := by rw [expr_zero (ne_head hn)]; rfl
theorem names_op {h : Str} {l : List DT} {m : Nat} (hn : h ≠ "name") : namesX (m + 1) (.tup (.str h :: l)) = (l.map (namesX m)).flatten := by
  unfold namesX
  rw [if_neg (show ¬ digitB (.tup (.str h :: l)) = true from (by intro z; cases z)), if_neg (ne_head hn)]
  rfl
theorem inV_strs (s : Str) : ∀ l : List Str, inV (.str s) (l.map V.str) = decide (s ∈ l)
  | [] => rfl
  | x :: l => by
    have ih := inV_strs s l
    unfold inV at ih ⊢
    rw [List.map_cons, List.any_cons, ih]
    show (x == s || decide (s ∈ l)) = _
    by_cases e : x = s
    · subst e
      simp
    · have e2 : ¬ s = x := fun z => e z.symm
      simp [e, e2]
def keptS : List Str := ["set", "tell", "hear", "wait", "on", "open", "or", "if", "else", "repeat", "leave", "home", "fail", "end", "plus", "minus", "same", "less", "not", "routine", "own", "over"]
theorem keptV_eq : keptV = keptS.map V.str := rfl
abbrev wordsS : Str := "set tell hear wait on open or if else repeat leave home fail end plus minus same less not routine own over"
theorem kept_in : Txt.split wordsS " " = keptS := by decide +kernel
/-- letters from a to z alone -/
def Low (z : Str) : Prop := ∀ c ∈ z.cps.toList, 97 ≤ c ∧ c ≤ 122
theorem sign_low {c : Nat} (h : 97 ≤ c ∧ c ≤ 122) : signB c = true := by
  unfold signB
  have h1 : ¬ [c] < [97] := fun z => by
    cases z with
    | rel h => omega
    | cons h => cases h
  have h2 : ¬ [122] < [c] := fun z => by
    cases z with
    | rel h => omega
    | cons h => cases h
  rw [decide_eq_false h1, decide_eq_false h2]
  rfl
theorem name_low {z : Str} (h : Low z) (h1 : 1 ≤ z.length) (hk : z ∉ keptS) : nameB (.str z) = decide (z.length ≤ 8) := by
  show (decide (1 ≤ z.length) && decide (z.length ≤ 8) && (!inV (.str z) keptV && (z.cps.toList.map signB).all id)) = _
  rw [decide_eq_true h1, keptV_eq, inV_strs, decide_eq_false hk, Bool.true_and]
  have e : (z.cps.toList.map signB).all id = true := List.all_eq_true.mpr fun b hb => by
    obtain ⟨c, hc, rfl⟩ := List.mem_map.mp hb
    exact sign_low (h c hc)
  rw [e, Bool.not_false, Bool.true_and, Bool.and_true]
theorem low_cat {y z : Str} (h1 : Low y) (h2 : Low z) : Low (y ++ z) := fun c hc => by
  have e : (y ++ z).cps.toList = y.cps.toList ++ z.cps.toList := by
    show (y.cps ++ z.cps).toList = _
    rw [Array.toList_append]
  rw [e] at hc
  rcases List.mem_append.mp hc with hc | hc
  · exact h1 c hc
  · exact h2 c hc
theorem len_cat (y z : Str) : (y ++ z).length = y.length + z.length := by
  show (y.cps ++ z.cps).size = _
  rw [Array.size_append]
  rfl
abbrev abcS : Str := "abcdefghijklmnopqrstuvwxyz"
theorem abc_at : ∀ i, i < 26 → ∃ c, abcS.cps.toList[i]? = some c ∧ c = 97 + i := by decide +kernel
theorem low_one {c : Nat} (h : 97 ≤ c ∧ c ≤ 122) : Low ⟨#[c]⟩ := fun d hd => by
  rcases List.mem_cons.mp (show d ∈ [c] from hd) with rfl | hd
  · exact h
  · cases hd
end Oh
namespace Oh
open PySem PySem.Spec PyProof.Rows L2 PpSet
/-! ### a block gone through with one choice -/
inductive Out where
  | fin
  | lv
  | no
deriving DecidableEq
def brB (d : DT) : Bool := decide (headB d = "if" ∨ headB d = "open")
def runI (c : List Nat → Nat) (rec : DT → List Nat → Out) (q : List Nat) (d : DT) : Out :=
  if headB d = "set" then .fin else if headB d = "leave" then .lv
  else if headB d = "repeat" then (match rec (argB d 1) (q ++ [0]) with
    | .lv => .fin
    | .fin => .no
    | .no => .no)
  else if headB d = "if" ∨ headB d = "open" then rec ((blocksB d).getD (c q) .non) (q ++ [c q]) else .no
def runL (one : List Nat → DT → Out) (pre : List Nat) : List DT → Nat → Out
  | [], _ => .fin
  | d :: r, i => match one (pre ++ [i]) d with
    | .fin => runL one pre r (i + 1)
    | .lv => .lv
    | .no => .no
def runB (c : List Nat → Nat) : Nat → DT → List Nat → Out
  | 0 => fun _ _ => .no
  | m + 1 => fun b pre => runL (runI c (runB c m)) pre (listB b) 0
theorem good_parts {m : Nat} {b : DT} (h : goodR (m + 1) b = true) : blockB b = true ∧ ∀ d ∈ listB b, stmtB d = true ∧ ∀ c ∈ blocksB d, goodR m c = true := by
  obtain ⟨h1, h2⟩ := Bool.and_eq_true_iff.mp (show (blockB b && (listB b).all fun d => stmtB d && (blocksB d).all (goodR m)) = true from h)
  refine ⟨h1, fun d hd => ?_⟩
  obtain ⟨h3, h4⟩ := Bool.and_eq_true_iff.mp (List.all_eq_true.mp h2 d hd)
  exact ⟨h3, fun c hc => List.all_eq_true.mp h4 c hc⟩
theorem good_dep : ∀ {m : Nat} {b : DT}, goodR m b = true → depW m b
  | 0, _, h => by cases h
  | m + 1, b, h => fun d hd _ c hc => good_dep (((good_parts h).2 d hd).2 c hc)
/-- the choices that matter: at the ifs and open lines of the block -/
def SameC (b : DT) (pre : List Nat) (c c' : List Nat → Nat) : Prop := ∀ v d, atW b v = some d → brB d = true → c (pre ++ v) = c' (pre ++ v)
theorem runL_congr {f g : List Nat → DT → Out} {pre : List Nat} : ∀ (ds : List DT) (i : Nat), (∀ k d, ds[k]? = some d → f (pre ++ [i + k]) d = g (pre ++ [i + k]) d) → runL f pre ds i = runL g pre ds i
  | [], _, _ => rfl
  | d :: r, i, h => by
    have z := runL_congr (f := f) (g := g) (pre := pre) r (i + 1) fun k x hx => by
      rw [show i + 1 + k = i + (k + 1) by omega]
      exact h (k + 1) x hx
    unfold runL
    rw [show f (pre ++ [i]) d = g (pre ++ [i]) d from h 0 d rfl]
    cases g (pre ++ [i]) d with
    | fin => exact z
    | lv => rfl
    | no => rfl
theorem runI_congr {c c' : List Nat → Nat} {r r' : DT → List Nat → Out} {q : List Nat} {d : DT} (h0 : brB d = true → c q = c' q) (h : ∀ j x, (blocksB d)[j]? = some x → r x (q ++ [j]) = r' x (q ++ [j])) (hn : brB d = true → c q < (blocksB d).length) : runI c r q d = runI c' r' q d := by
  unfold runI
  by_cases c1 : headB d = "set"
  · rw [if_pos c1, if_pos c1]
  rw [if_neg c1, if_neg c1]
  by_cases c2 : headB d = "leave"
  · rw [if_pos c2, if_pos c2]
  rw [if_neg c2, if_neg c2]
  by_cases c3 : headB d = "repeat"
  · rw [if_pos c3, if_pos c3, h 0 (argB d 1) (by rw [blocks_head c3]; rfl)]
  rw [if_neg c3, if_neg c3]
  by_cases c4 : headB d = "if" ∨ headB d = "open"
  · rw [if_pos c4, if_pos c4]
    have b1 : brB d = true := decide_eq_true c4
    have lt := hn b1
    rw [← h0 b1, List.getD_eq_getElem?_getD, List.getElem?_eq_getElem lt]
    exact h (c q) _ (List.getElem?_eq_getElem lt)
  · rw [if_neg c4, if_neg c4]
theorem run_congr {c c' : List Nat → Nat} : ∀ {m : Nat} {b : DT} {pre : List Nat}, goodR m b = true → SameC b pre c c' → (∀ v d, atW b v = some d → brB d = true → c (pre ++ v) < (blocksB d).length) → runB c m b pre = runB c' m b pre
  | 0, _, _, h, _, _ => by cases h
  | m + 1, b, pre, h, s, hv => by
    refine runL_congr _ _ fun k d hk => ?_
    rw [Nat.zero_add]
    obtain ⟨hs, hb⟩ := (good_parts h).2 d (List.mem_of_getElem? hk)
    refine runI_congr (fun z => s [k] d hk z) (fun j x hx => ?_) (fun z => hv [k] d hk z)
    refine run_congr (hb x (List.mem_of_getElem? hx)) (fun v e he hbr => ?_) (fun v e he hbr => ?_)
    · have z := s (k :: j :: v) e ((at_cons hk hs hx).trans he) hbr
      rw [show pre ++ [k] ++ [j] ++ v = pre ++ k :: j :: v by simp]
      exact z
    · have z := hv (k :: j :: v) e ((at_cons hk hs hx).trans he) hbr
      rw [show pre ++ [k] ++ [j] ++ v = pre ++ k :: j :: v by simp]
      exact z
/-! ### quiet just if some choice comes to the end -/
/-- n blocks at each path -/
structure HatN (N : List Nat → Nat) (b : DT) (pre : List Nat) : Prop where
  at_ : ∀ v d, atW b v = some d → brB d = true → N (pre ++ v) = (blocksB d).length
theorem HatN.inn {N : List Nat → Nat} {b d x : DT} {pre : List Nat} {k j : Nat} (h : HatN N b pre) (hk : (listB b)[k]? = some d) (hs : stmtB d = true) (hx : (blocksB d)[j]? = some x) : HatN N x (pre ++ [k] ++ [j]) := ⟨fun v e he hbr => by
  rw [show pre ++ [k] ++ [j] ++ v = pre ++ k :: j :: v by simp]
  exact h.at_ _ e ((at_cons hk hs hx).trans he) hbr⟩
abbrev Val (N : List Nat → Nat) (c : List Nat → Nat) : Prop := ∀ q, c q < N q
theorem Val.cond {N c : List Nat → Nat} {b : DT} {pre : List Nat} (h : Val N c) (hat : HatN N b pre) : ∀ v d, atW b v = some d → brB d = true → c (pre ++ v) < (blocksB d).length := fun v d e hb => by
  rw [← hat.at_ v d e hb]
  exact h _
def QuietA (N : List Nat → Nat) (m : Nat) : Prop := ∀ (b : DT) (pre : List Nat), goodR m b = true → HatN N b pre → ((quietW m b).1 = true ↔ ∃ c, Val N c ∧ runB c m b pre = .fin) ∧ ((quietW m b).2 = true ↔ ∃ c, Val N c ∧ runB c m b pre = .lv)
theorem br_some {d : DT} (hs : stmtB d = true) (h : headB d = "if" ∨ headB d = "open") : (blocksB d).length ≠ 0 := inner_some hs h
theorem quiet_item {N : List Nat → Nat} (pos : ∀ q, 0 < N q) {m : Nat} (rec : QuietA N m) {d : DT} {q : List Nat} (hs : stmtB d = true) (hb : ∀ c ∈ blocksB d, goodR m c = true) (hq : brB d = true → N q = (blocksB d).length) (hat : ∀ j x, (blocksB d)[j]? = some x → HatN N x (q ++ [j])) :
    ((quietO (quietW m) d).1 = true ↔ ∃ c, Val N c ∧ runI c (runB c m) q d = .fin) ∧ ((quietO (quietW m) d).2 = true ↔ ∃ c, Val N c ∧ runI c (runB c m) q d = .lv) := by
  have v0 : Val N fun _ => 0 := pos
  unfold quietO
  rw [if_neg (by rw [hs]; decide)]
  by_cases c1 : headB d = "set"
  · have e : ∀ c, runI c (runB c m) q d = .fin := fun c => by unfold runI; rw [if_pos c1]
    rw [if_pos c1]
    exact ⟨⟨fun _ => ⟨_, v0, e _⟩, fun _ => rfl⟩, ⟨(fun z => by cases z), fun ⟨c, _, z⟩ => by rw [e c] at z; cases z⟩⟩
  rw [if_neg c1]
  by_cases c2 : headB d = "leave"
  · have e : ∀ c, runI c (runB c m) q d = .lv := fun c => by unfold runI; rw [if_neg c1, if_pos c2]
    rw [if_pos c2]
    exact ⟨⟨(fun z => by cases z), fun ⟨c, _, z⟩ => by rw [e c] at z; cases z⟩, ⟨fun _ => ⟨_, v0, e _⟩, fun _ => rfl⟩⟩
  rw [if_neg c2]
  by_cases c3 : headB d = "repeat"
  · have un : ∀ c, runI c (runB c m) q d = (match runB c m (argB d 1) (q ++ [0]) with
      | .lv => .fin
      | .fin => .no
      | .no => .no) := fun c => by unfold runI; rw [if_neg c1, if_neg c2, if_pos c3]
    rw [if_pos c3]
    have hx : (blocksB d)[0]? = some (argB d 1) := by rw [blocks_head c3]; rfl
    have R := (rec (argB d 1) (q ++ [0]) (hb _ (List.mem_of_getElem? hx)) (hat 0 _ hx)).2
    refine ⟨⟨fun z => ?_, fun ⟨c, vc, z⟩ => R.mpr ⟨c, vc, ?_⟩⟩, ⟨fun z => (by cases z), fun ⟨c, _, z⟩ => ?_⟩⟩
    · obtain ⟨c, vc, e⟩ := R.mp z
      exact ⟨c, vc, by rw [un, e]⟩
    · rw [un] at z
      cases e : runB c m (argB d 1) (q ++ [0]) with
      | lv => rfl
      | fin => rw [e] at z; cases z
      | no => rw [e] at z; cases z
    · rw [un] at z
      cases e : runB c m (argB d 1) (q ++ [0]) with
      | lv => rw [e] at z; cases z
      | fin => rw [e] at z; cases z
      | no => rw [e] at z; cases z
  rw [if_neg c3]
  by_cases c4 : headB d = "if" ∨ headB d = "open"
  · have un : ∀ c, runI c (runB c m) q d = runB c m ((blocksB d).getD (c q) .non) (q ++ [c q]) := fun c => by unfold runI; rw [if_neg c1, if_neg c2, if_neg c3, if_pos c4]
    rw [if_pos c4]
    have b1 : brB d = true := decide_eq_true c4
    have en := hq b1
    -- the choice of one block
    have put : ∀ (j : Nat) (x : DT), (blocksB d)[j]? = some x → ∀ (c : List Nat → Nat) (o : Out), Val N c → runB c m x (q ++ [j]) = o → ∃ c', Val N c' ∧ runI c' (runB c' m) q d = o := fun j x hx c o vc e => by
      have lj : j < (blocksB d).length := (List.getElem?_eq_some_iff.mp hx).1
      refine ⟨fun p => if p = q then j else c p, fun p => ?_, ?_⟩
      · show (if p = q then j else c p) < N p
        by_cases z : p = q
        · rw [if_pos z, z, en]; exact lj
        · rw [if_neg z]; exact vc p
      · rw [un]
        show runB _ m ((blocksB d).getD (if q = q then j else c q) .non) (q ++ [if q = q then j else c q]) = o
        rw [if_pos rfl, List.getD_eq_getElem?_getD, hx]
        show runB _ m x (q ++ [j]) = o
        rw [← e]
        refine (run_congr (hb x (List.mem_of_getElem? hx)) (fun v e _ _ => ?_) (vc.cond (hat j x hx))).symm
        show c (q ++ [j] ++ v) = if q ++ [j] ++ v = q then j else c (q ++ [j] ++ v)
        rw [if_neg (fun z => by
          have := congrArg List.length z
          rw [List.length_append, List.length_append] at this
          simp at this
          omega)]
    have get : ∀ (c : List Nat → Nat), Val N c → ∃ x, (blocksB d)[c q]? = some x ∧ (blocksB d).getD (c q) .non = x := fun c vc => by
      have lt : c q < (blocksB d).length := by rw [← en]; exact vc q
      exact ⟨_, List.getElem?_eq_getElem lt, by rw [List.getD_eq_getElem?_getD, List.getElem?_eq_getElem lt]; rfl⟩
    have anyM : ∀ (g : Bool × Bool → Bool), ((((blocksB d).map (quietW m)).map g).any id = true ↔ ∃ (j : Nat) (x : DT), (blocksB d)[j]? = some x ∧ g (quietW m x) = true) := fun g => by
      rw [List.any_eq_true]
      constructor
      · rintro ⟨y, my, hy⟩
        obtain ⟨z, mz, rfl⟩ := List.mem_map.mp my
        obtain ⟨x, mx, rfl⟩ := List.mem_map.mp mz
        obtain ⟨j, hj⟩ := List.getElem?_of_mem mx
        exact ⟨j, x, hj, hy⟩
      · rintro ⟨j, x, hj, hy⟩
        exact ⟨_, List.mem_map_of_mem (List.mem_map_of_mem (List.mem_of_getElem? hj)), hy⟩
    refine ⟨(anyM (·.1)).trans ⟨fun ⟨j, x, hj, hy⟩ => ?_, fun ⟨c, vc, z⟩ => ?_⟩, (anyM (·.2)).trans ⟨fun ⟨j, x, hj, hy⟩ => ?_, fun ⟨c, vc, z⟩ => ?_⟩⟩
    · obtain ⟨c, vc, e⟩ := (rec x (q ++ [j]) (hb x (List.mem_of_getElem? hj)) (hat j x hj)).1.mp hy
      exact put j x hj c _ vc e
    · obtain ⟨x, hx, e⟩ := get c vc
      rw [un, e] at z
      exact ⟨_, x, hx, (rec x _ (hb x (List.mem_of_getElem? hx)) (hat _ x hx)).1.mpr ⟨c, vc, z⟩⟩
    · obtain ⟨c, vc, e⟩ := (rec x (q ++ [j]) (hb x (List.mem_of_getElem? hj)) (hat j x hj)).2.mp hy
      exact put j x hj c _ vc e
    · obtain ⟨x, hx, e⟩ := get c vc
      rw [un, e] at z
      exact ⟨_, x, hx, (rec x _ (hb x (List.mem_of_getElem? hx)) (hat _ x hx)).2.mpr ⟨c, vc, z⟩⟩
  · have e : ∀ c, runI c (runB c m) q d = .no := fun c => by unfold runI; rw [if_neg c1, if_neg c2, if_neg c3, if_neg c4]
    rw [if_neg c4]
    exact ⟨⟨(fun z => by cases z), fun ⟨c, _, z⟩ => by rw [e c] at z; cases z⟩, ⟨(fun z => by cases z), fun ⟨c, _, z⟩ => by rw [e c] at z; cases z⟩⟩
/-- two choices in one: the one at item i, the other one behind it -/
def glue (pre : List Nat) (i : Nat) (c1 c2 : List Nat → Nat) : List Nat → Nat := fun p => if p.take (pre.length + 1) = pre ++ [i] then c1 p else c2 p
theorem glue_at {pre : List Nat} {i : Nat} {c1 c2 : List Nat → Nat} (v : List Nat) : glue pre i c1 c2 (pre ++ [i] ++ v) = c1 (pre ++ [i] ++ v) := if_pos (by rw [List.take_left' (by simp)])
theorem glue_ne {pre : List Nat} {i k : Nat} {c1 c2 : List Nat → Nat} (h : k ≠ i) (v : List Nat) : glue pre i c1 c2 (pre ++ [k] ++ v) = c2 (pre ++ [k] ++ v) := if_neg (fun z => by
  rw [List.take_left' (by simp)] at z
  have := List.append_cancel_left z
  exact h (List.cons.inj this).1)
theorem quiet_list {N : List Nat → Nat} (pos : ∀ q, 0 < N q) {m : Nat} (rec : QuietA N m) {pre : List Nat} : ∀ (ds : List DT) (i : Nat) (lv : Bool), (∀ k d, ds[k]? = some d → stmtB d = true ∧ (∀ c ∈ blocksB d, goodR m c = true) ∧ (brB d = true → N (pre ++ [i + k]) = (blocksB d).length) ∧ ∀ j x, (blocksB d)[j]? = some x → HatN N x (pre ++ [i + k] ++ [j])) →
    ((quietL (quietO (quietW m)) ds lv).1 = true ↔ ∃ c, Val N c ∧ runL (runI c (runB c m)) pre ds i = .fin) ∧ ((quietL (quietO (quietW m)) ds lv).2 = true ↔ lv = true ∨ ∃ c, Val N c ∧ runL (runI c (runB c m)) pre ds i = .lv)
  | [], i, lv, _ => ⟨⟨fun _ => ⟨fun _ => 0, pos, rfl⟩, fun _ => rfl⟩, ⟨(fun z => .inl z), fun z => z.elim id fun ⟨_, _, z⟩ => by cases z⟩⟩
  | d :: r, i, lv, h => by
    obtain ⟨hs, hb, hq, hat⟩ := h 0 d rfl
    rw [Nat.add_zero] at hq hat
    obtain ⟨I1, I2⟩ := quiet_item pos rec hs hb hq hat
    have hr : ∀ k x, r[k]? = some x → stmtB x = true ∧ (∀ c ∈ blocksB x, goodR m c = true) ∧ (brB x = true → N (pre ++ [i + 1 + k]) = (blocksB x).length) ∧ ∀ j y, (blocksB x)[j]? = some y → HatN N y (pre ++ [i + 1 + k] ++ [j]) := fun k x hk => by
      rw [show i + 1 + k = i + (k + 1) by omega]
      exact h (k + 1) x hk
    have R := quiet_list pos rec r (i + 1) (lv || (quietO (quietW m) d).2) hr
    -- gluing
    have gl : ∀ (c1 c2 : List Nat → Nat) (o : Out), Val N c1 → Val N c2 → runI c1 (runB c1 m) (pre ++ [i]) d = .fin → runL (runI c2 (runB c2 m)) pre r (i + 1) = o → ∃ c, Val N c ∧ runL (runI c (runB c m)) pre (d :: r) i = o := fun c1 c2 o v1 v2 e1 e2 => by
      refine ⟨glue pre i c1 c2, fun p => ?_, ?_⟩
      · unfold glue
        split
        · exact v1 p
        · exact v2 p
      · have z1 : runI (glue pre i c1 c2) (runB (glue pre i c1 c2) m) (pre ++ [i]) d = .fin := by
          rw [← e1]
          refine (runI_congr (fun _ => ?_) (fun j x hx => run_congr (hb x (List.mem_of_getElem? hx)) (fun v e _ _ => ?_) (v1.cond (hat j x hx))) (fun hbr => by rw [← hq hbr]; exact v1 _)).symm
          · have z := glue_at (pre := pre) (i := i) (c1 := c1) (c2 := c2) []
            rw [List.append_nil] at z
            exact z.symm
          · have z := glue_at (pre := pre) (i := i) (c1 := c1) (c2 := c2) ([j] ++ v)
            rw [← List.append_assoc] at z
            exact z.symm
        have z2 : runL (runI (glue pre i c1 c2) (runB (glue pre i c1 c2) m)) pre r (i + 1) = o := by
          rw [← e2]
          refine (runL_congr r (i + 1) fun k x hk => ?_).symm
          obtain ⟨_, hb', hq', hat'⟩ := hr k x hk
          refine runI_congr (fun _ => ?_) (fun j y hy => run_congr (hb' y (List.mem_of_getElem? hy)) (fun v e _ _ => ?_) (v2.cond (hat' j y hy))) (fun hbr => by rw [← hq' hbr]; exact v2 _)
          · have z := glue_ne (pre := pre) (i := i) (k := i + 1 + k) (c1 := c1) (c2 := c2) (by omega) []
            rw [List.append_nil] at z
            exact z.symm
          · have z := glue_ne (pre := pre) (i := i) (k := i + 1 + k) (c1 := c1) (c2 := c2) (by omega) ([j] ++ v)
            rw [← List.append_assoc] at z
            exact z.symm
        conv => lhs; unfold runL
        rw [z1]
        exact z2
    have un : ∀ c, runL (runI c (runB c m)) pre (d :: r) i = (match runI c (runB c m) (pre ++ [i]) d with
      | .fin => runL (runI c (runB c m)) pre r (i + 1)
      | .lv => .lv
      | .no => .no) := fun c => by conv => lhs; unfold runL
    unfold quietL
    cases p1 : (quietO (quietW m) d).1 with
    | true =>
      rw [if_pos rfl]
      obtain ⟨c1, v1, e1⟩ := I1.mp p1
      refine ⟨R.1.trans ⟨fun ⟨c2, v2, e2⟩ => gl c1 c2 _ v1 v2 e1 e2, fun ⟨c, vc, e⟩ => ?_⟩, R.2.trans ⟨fun z => ?_, fun z => ?_⟩⟩
      · rw [un] at e
        cases e3 : runI c (runB c m) (pre ++ [i]) d with
        | fin => rw [e3] at e; exact ⟨c, vc, e⟩
        | lv => rw [e3] at e; cases e
        | no => rw [e3] at e; cases e
      · rcases z with z | ⟨c2, v2, e2⟩
        · cases lv with
          | true => exact .inl rfl
          | false =>
            obtain ⟨c, vc, e⟩ := I2.mp (by simpa using z)
            exact .inr ⟨c, vc, by rw [un, e]⟩
        · exact .inr (gl c1 c2 _ v1 v2 e1 e2)
      · rcases z with z | ⟨c, vc, e⟩
        · exact .inl (by rw [z]; rfl)
        · rw [un] at e
          cases e3 : runI c (runB c m) (pre ++ [i]) d with
          | fin => rw [e3] at e; exact .inr ⟨c, vc, e⟩
          | lv => exact .inl (by rw [I2.mpr ⟨c, vc, e3⟩, Bool.or_true])
          | no => rw [e3] at e; cases e
    | false =>
      rw [if_neg (by decide)]
      have nf : ∀ c, Val N c → runI c (runB c m) (pre ++ [i]) d ≠ .fin := fun c vc e => by
        have := I1.mpr ⟨c, vc, e⟩
        rw [p1] at this
        cases this
      refine ⟨⟨(fun z => by cases z), fun ⟨c, vc, e⟩ => ?_⟩, ⟨fun z => ?_, fun z => ?_⟩⟩
      · rw [un] at e
        cases e3 : runI c (runB c m) (pre ++ [i]) d with
        | fin => exact absurd e3 (nf c vc)
        | lv => rw [e3] at e; cases e
        | no => rw [e3] at e; cases e
      · cases lv with
        | true => exact .inl rfl
        | false =>
          obtain ⟨c, vc, e⟩ := I2.mp (by simpa using z)
          exact .inr ⟨c, vc, by rw [un, e]⟩
      · rcases z with z | ⟨c, vc, e⟩
        · show (lv || (quietO (quietW m) d).2) = true
          rw [z]
          rfl
        · show (lv || (quietO (quietW m) d).2) = true
          rw [un] at e
          cases e3 : runI c (runB c m) (pre ++ [i]) d with
          | fin => exact absurd e3 (nf c vc)
          | lv => rw [I2.mpr ⟨c, vc, e3⟩, Bool.or_true]
          | no => rw [e3] at e; cases e
theorem quiet_all {N : List Nat → Nat} (pos : ∀ q, 0 < N q) : ∀ m, QuietA N m
  | 0 => fun _ _ h _ => by cases h
  | m + 1 => fun b pre h hat => by
    have z := quiet_list pos (quiet_all pos m) (pre := pre) (listB b) 0 false fun k d hk => by
      obtain ⟨hs, hb⟩ := (good_parts h).2 d (List.mem_of_getElem? hk)
      rw [Nat.zero_add]
      exact ⟨hs, hb, fun hbr => hat.at_ [k] d hk hbr, fun j x hx => hat.inn hk hs hx⟩
    refine ⟨z.1, z.2.trans ⟨(fun y => y.elim (fun e => by cases e) id), .inr⟩⟩
end Oh
namespace Oh
open PySem PySem.Spec PyProof.Rows L2 PpSet
section
variable {P : Program} {w : World} {K : PySem.W.Frag} {mg : Str → Option Value} {base : Heap}
abbrev nPt : List Str := ["_law_statement", "_law_row"]
theorem scParts : FnScope nPt ["_law_statement"] (defScope lParts) := ⟨rfl, rfl, rfl, by decide +kernel, rfl, by decide +kernel, by decide +kernel⟩
theorem ok_parts {f : Addr} {fd : FuncData} (F : Fun K "_law_parts" "_law_parts" lParts f fd) (T : TxtI mg) : FnOk P w K mg base CX0 1 f fd ["_law_statement"] (spBlocks K) := by
  refine F.ok scParts (fun vs H Q E h => ?_) (fun cdv A outer s H vs Q E hr h => ?_)
  · obtain ⟨v, d, rfl, _⟩ := h
    rfl
  · obtain ⟨v, d, rfl, r, hs, k⟩ := h
    obtain ⟨g, l, hk, hg, el⟩ := stmt_inv hs
    obtain ⟨p, xs, rfl, hp, ra⟩ := (el ▸ r : Rp K H v (.tup (.str (headB d) :: l))).tup_inv
    have hl := ra.len
    have ll := len_of el
    obtain ⟨v0, x0, r0⟩ := ra.get (i := 0) rfl
    cases r0
    refine ⟨_, (pss_cons (ps_if (pt_cmpR op_eq (pe_ix ix_tup (pv 0) pe_int (fun _ _ => rfl)) pe_str (nomark _))
        (pss_one (ps_ret (pe_lc (own := [("_law_row", 1)]) (g := gName 1) (tt := tYes) (te := tOp (rIxT K) (tVar 1) (tC (.int 2))) rfl scParts.nd (pi_tup (pe_ix ix_tup (pv 0) pe_int (fun _ _ => rfl))) (blkOk_by (N := nPt) (sc := defScope lParts) (by decide +kernel)) (fun _ _ _ _ _ => pg_name (i := 1) scParts.nd rfl (Or.inl rfl)) (fun _ _ _ _ _ => pts_nil) (fun _ _ _ _ _ => pe_ix ix_tup (pv 1) pe_int (fun _ _ => rfl))))) pss_nil)
      (pss_cons (ps_if (pt_cmpR op_eq (pe_ix ix_tup (pv 0) pe_int (fun _ _ => rfl)) pe_str (nomark _))
        (pss_one (ps_ret (pe_callTy call_list_of (by rfl) T.list bb_list (pa_cons (pe_ix ix_tup (pv 0) pe_int (fun _ _ => rfl)) pa_nil)))) pss_nil)
      (pss_cons (ps_if (pt_cmpR op_eq (pe_ix ix_tup (pv 0) pe_int (fun _ _ => rfl)) pe_str (nomark _))
        (pss_one (ps_ret (pe_lst (pa_cons (pe_ix ix_tup (pv 0) pe_int (fun _ _ => rfl)) (pa_cons (pe_ix ix_tup (pv 0) pe_int (fun _ _ => rfl)) pa_nil))))) pss_nil)
      (pss_cons (ps_if (pt_cmpR op_eq (pe_ix ix_tup (pv 0) pe_int (fun _ _ => rfl)) pe_str (nomark _))
        (pss_one (ps_ret (pe_lst (pa_cons (pe_ix ix_tup (pv 0) pe_int (fun _ _ => rfl)) pa_nil)))) pss_nil)
      (pss_one (ps_ret (pe_lst pa_nil))))))), ?_⟩
    have ge : ∀ {a b : Str}, a ≠ b → ¬ decide (V.str a = V.str b) = true := fun h z => h (V.str.inj (of_decide_eq_true z))
    refine ⟨_, rfl, p, _, _, _, rfl, rfl, SqT.of hp, at_of (j := 0) rfl x0, rfl, _, rfl, ?_⟩
    by_cases c4 : headB d = "wait"
    · refine ite2 (fun _ => ?_) (fun z => absurd (decide_eq_true (by rw [c4])) z)
      have hb : blocksB d = (listB (argB d 1)).map fun r => argB r 2 := by unfold blocksB; rw [if_neg (by rw [c4]; decide), if_neg (by rw [c4]; decide), if_neg (by rw [c4]; decide), if_pos c4]
      obtain ⟨z1, z2, z3, _⟩ := wait_len hs c4
      rw [hb] at k
      obtain ⟨v1, x1, r1⟩ := arg_at (i := 1) ra (by rw [← ll, z1]; decide)
      rw [← el] at r1
      obtain ⟨m, em, lm⟩ := choice_inv z2
      rw [em] at r1 k z3
      obtain ⟨q1, ys, rfl, hq1, rm⟩ := r1.tup_inv
      refine ⟨_, rfl, p, _, _, _, rfl, rfl, SqT.of hp, at_of (j := 1) rfl x1, q1, rfl, ⟨_, SqT.of hq1⟩, fun D nD => lc_it (walk_tup (xs := ys)) (fun i H' => Same H H' ∧ ∃ acc, H' D = some (.lst acc) ∧ acc.length = i ∧ RpAll K H acc ((m.take i).map fun r => argB r 2)) ⟨Same.new nD, [], upd_same, rfl, .nil⟩ (fun i H' _ z => SqT.of (z.1 _ _ hq1)) ?_ ?_⟩
      · rintro i x Ha Hb hi ⟨sa, acc, da, la, raa⟩ ⟨e, ex⟩
        subst e
        have li : i < m.length := by rw [← rm.len]; exact hi
        obtain ⟨vi, ev, rv⟩ := rm.get (i := i) (d := m[i]) (List.getElem?_eq_getElem li)
        obtain rfl := Option.some.inj (ev.symm.trans ex)
        obtain ⟨lr, er, l3⟩ := row_len (z3 _ (List.getElem_mem li))
        have rv' := rv
        rw [er] at rv'
        obtain ⟨pr, xr, rfl, hpr, rr⟩ := rv'.tup_inv
        obtain ⟨vz, evz, rz⟩ := arg_at (i := 2) rr (by omega)
        rw [← er] at rz
        have tk : (m.take (i + 1)).map (fun r => argB r 2) = (m.take i).map (fun r => argB r 2) ++ [argB m[i] 2] := by rw [List.take_add_one, List.getElem?_eq_getElem li, List.map_append]; rfl
        refine ⟨rfl, _, rfl, pr, _, _, _, rfl, rfl, SqT.of (sa _ _ hpr), at_of (j := 2) rfl evz, acc, da, ?_, fun b o e => ?_, acc ++ [vz], upd_same, by rw [List.length_append, la]; rfl, ?_⟩
        · rw [la]
          exact Nat.lt_of_lt_of_le li (Nat.le_trans lm (by decide))
        · rw [upd_ne (ne_of_none e nD)]
          exact sa _ _ e
        · rw [tk]
          exact raa.snoc rz
      · rintro H1 ⟨s1, acc, d1, la, raa⟩
        rw [show m.take ys.length = m by rw [rm.len, List.take_length]] at raa
        exact k D H1 acc s1 nD d1 (raa.keep s1)
    refine ite2 (fun z => absurd z (ge c4)) fun _ => ?_
    refine ⟨_, rfl, p, _, _, _, rfl, rfl, SqT.of hp, at_of (j := 0) rfl x0, rfl, _, rfl, ?_⟩
    by_cases c3 : headB d = "open"
    · refine ite2 (fun _ => ?_) (fun z => absurd (decide_eq_true (by rw [c3])) z)
      have hb : blocksB d = listB (argB d 1) := by unfold blocksB; rw [if_neg (by rw [c3]; decide), if_neg (by rw [c3]; decide), if_pos c3]
      obtain ⟨z1, z2, _⟩ := open_len hs c3
      rw [hb] at k
      obtain ⟨v1, x1, r1⟩ := arg_at (i := 1) ra (by rw [← ll, z1]; decide)
      rw [← el] at r1
      obtain ⟨m, em, _⟩ := choice_inv z2
      rw [em] at r1 k
      obtain ⟨q1, ys, rfl, hq1, rm⟩ := r1.tup_inv
      refine ⟨_, rfl, p, _, _, _, rfl, rfl, SqT.of hp, at_of (j := 1) rfl x1, q1, ys, rfl, .inr (SqT.of hq1), fun q nq => ?_⟩
      exact k q _ _ (Same.new nq) nq upd_same (rm.keep (Same.new nq))
    refine ite2 (fun z => absurd z (ge c3)) fun _ => ?_
    refine ⟨_, rfl, p, _, _, _, rfl, rfl, SqT.of hp, at_of (j := 0) rfl x0, rfl, _, rfl, ?_⟩
    by_cases c1 : headB d = "if"
    · refine ite2 (fun _ => ?_) (fun z => absurd (decide_eq_true (by rw [c1])) z)
      have hb : blocksB d = [argB d 2, argB d 3] := by unfold blocksB; rw [if_pos c1]
      obtain ⟨z1, _⟩ := if_len hs c1
      rw [hb] at k
      have ra' : RpAll K H xs (.str (headB d) :: l) := ra
      obtain ⟨v2, x2, r2⟩ := arg_at (i := 2) ra' (by rw [← ll, z1]; decide)
      obtain ⟨v3, x3, r3⟩ := arg_at (i := 3) ra' (by rw [← ll, z1]; decide)
      rw [← el] at r2 r3
      refine ⟨_, rfl, p, _, _, _, rfl, rfl, SqT.of hp, at_of (j := 2) rfl x2, _, rfl, p, _, _, _, rfl, rfl, SqT.of hp, at_of (j := 3) rfl x3, (by show 2 ≤ sizeLine; decide), fun q nq => ?_⟩
      exact k q _ _ (Same.new nq) nq upd_same (.cons (r2.keep (Same.new nq)) (.cons (r3.keep (Same.new nq)) .nil))
    refine ite2 (fun z => absurd z (ge c1)) fun _ => ?_
    refine ⟨_, rfl, p, _, _, _, rfl, rfl, SqT.of hp, at_of (j := 0) rfl x0, rfl, _, rfl, ?_⟩
    by_cases c2 : headB d = "repeat"
    · refine ite2 (fun _ => ?_) (fun z => absurd (decide_eq_true (by rw [c2])) z)
      have hb : blocksB d = [argB d 1] := by unfold blocksB; rw [if_neg (by rw [c2]; decide), if_pos c2]
      obtain ⟨z1, _⟩ := repeat_len hs c2
      rw [hb] at k
      obtain ⟨v1, x1, r1⟩ := arg_at (i := 1) ra (by rw [← ll, z1]; decide)
      rw [← el] at r1
      refine ⟨_, rfl, p, _, _, _, rfl, rfl, SqT.of hp, at_of (j := 1) rfl x1, (by show 1 ≤ sizeLine; decide), fun q nq => ?_⟩
      exact k q _ _ (Same.new nq) nq upd_same (.cons (r1.keep (Same.new nq)) .nil)
    refine ite2 (fun z => absurd z (ge c2)) fun _ => ?_
    have hb : blocksB d = [] := by unfold blocksB; rw [if_neg c1, if_neg c2, if_neg c3, if_neg c4]
    rw [hb] at k
    exact ⟨by decide, fun q nq => k q _ _ (Same.new nq) nq upd_same .nil⟩
end
end Oh
namespace Oh
open PySem PySem.Spec PyProof.Rows L2 PpSet
def S1c : List Str := ["a", "b", "c"]
def S2c : List Str := ["p", "q", "r"]
theorem abc3 : ∀ i, i < 3 → ∃ c, (Str.ofString "abc").cps.toList[i]? = some c ∧ (⟨#[c]⟩ : Str) ∈ S1c ∧ nameB (.str ⟨#[c]⟩) = true := by decide +kernel
theorem pqr3 : ∀ i, i < 3 → ∃ c, (Str.ofString "pqr").cps.toList[i]? = some c ∧ S2c[i]? = some (⟨#[c]⟩ : Str) ∧ (⟨#[c]⟩ : Str) ∈ S2c ∧ nameB (.str ⟨#[c]⟩) = true := by decide +kernel
theorem n_a : nameB (.str "a") = true ∧ nameB (.str "p") = true ∧ nameB (.str "q") = true := by decide +kernel
def mulL : List Nat → Nat
  | [] => 1
  | a :: r => a * mulL r
theorem mulL_append : ∀ l m : List Nat, mulL (l ++ m) = mulL l * mulL m
  | [], m => (Nat.one_mul _).symm
  | a :: r, m => by
    show a * mulL (r ++ m) = a * mulL r * mulL m
    rw [mulL_append r m, Nat.mul_assoc]
theorem mulL_pos : ∀ {l : List Nat}, (∀ x ∈ l, 1 ≤ x) → 1 ≤ mulL l
  | [], _ => Nat.le_refl 1
  | a :: r, h => Nat.mul_pos (h a List.mem_cons_self) (mulL_pos fun x hx => h x (List.mem_cons_of_mem _ hx))
def wP (d : DT) : Nat := if brB d = true then (blocksB d).length else 1
def prodI (rec : DT → Nat) (d : DT) : Nat := wP d * mulL ((blocksB d).map rec)
def prodW : Nat → DT → Nat
  | 0 => fun _ => 1
  | m + 1 => fun b => mulL ((listB b).map (prodI (prodW m)))
def genI4 (rec : Bool → DT → Prop) (lp : Bool) (d : DT) : Prop := stmtB d = true ∧ NP S1c S2c d ∧ (headB d = "leave" → lp = true) ∧ ∀ c ∈ blocksB d, rec (lp || decide (headB d = "repeat")) c
def gen4 : Nat → Bool → DT → Prop
  | 0 => fun _ _ => False
  | m + 1 => fun lp b => blockB b = true ∧ ∀ d ∈ listB b, genI4 (gen4 m) lp d
abbrev Itm4 (m : Nat) (lp : Bool) (d : DT) : Prop := genI4 (gen4 m) lp d
theorem gen4_good : ∀ {m : Nat} {lp : Bool} {b : DT}, gen4 m lp b → goodR m b = true
  | 0, _, _, h => h.elim
  | m + 1, lp, b, h => Bool.and_eq_true_iff.mpr ⟨h.1, List.all_eq_true.mpr fun d hd => Bool.and_eq_true_iff.mpr ⟨(h.2 d hd).1, List.all_eq_true.mpr fun c hc => gen4_good ((h.2 d hd).2.2.2 c hc)⟩⟩
theorem gen4_up : ∀ {m k : Nat} {lp : Bool} {b : DT}, m ≤ k → gen4 m lp b → gen4 k lp b
  | 0, _, _, _, _, h => h.elim
  | m + 1, 0, _, _, h, _ => absurd h (by omega)
  | m + 1, k + 1, lp, b, hm, h => ⟨h.1, fun d hd => ⟨(h.2 d hd).1, (h.2 d hd).2.1, (h.2 d hd).2.2.1, fun c hc => gen4_up (by omega) ((h.2 d hd).2.2.2 c hc)⟩⟩
theorem itm_up {m k : Nat} {lp : Bool} {d : DT} (hm : m ≤ k) (h : Itm4 m lp d) : Itm4 k lp d := ⟨h.1, h.2.1, h.2.2.1, fun c hc => gen4_up hm (h.2.2.2 c hc)⟩
theorem gen4_block {m : Nat} {lp : Bool} {b : DT} (h : gen4 m lp b) : blockB b = true := by
  cases m with
  | zero => exact h.elim
  | succ m => exact h.1
theorem gen4_all : ∀ {m : Nat} {lp : Bool} {b : DT}, gen4 m lp b → allR (NP S1c S2c) m b
  | 0, _, _, _ => trivial
  | m + 1, lp, b, h => fun d hd => ⟨(h.2 d hd).2.1, fun c hc => gen4_all ((h.2 d hd).2.2.2 c hc)⟩
/-- a statement without blocks -/
structure Smp4 (lp : Bool) (d : DT) : Prop where
  st : stmtB d = true
  np : NP S1c S2c d
  bl : blocksB d = []
  lv : headB d = "leave" → lp = true
theorem Smp4.itm {lp : Bool} {d : DT} (h : Smp4 lp d) (m : Nat) : Itm4 m lp d := ⟨h.st, h.np, h.lv, fun c hc => by rw [h.bl] at hc; cases hc⟩
theorem Smp4.br {lp : Bool} {d : DT} (h : Smp4 lp d) : brB d = false := by
  cases e : brB d with
  | false => rfl
  | true => exact absurd (by rw [h.bl]; rfl) (br_some h.st (of_decide_eq_true e))
theorem Smp4.wt {lp : Bool} {d : DT} (h : Smp4 lp d) (k : Nat) : wtW (cntW k) d = 1 := by
  unfold wtW
  rw [h.bl]
  simp
theorem Smp4.pr {lp : Bool} {d : DT} (h : Smp4 lp d) (r : DT → Nat) : prodI r d = 1 := by
  unfold prodI wP
  rw [h.br, h.bl]
  rfl
/-! ### the room: how many statements, how many choices -/
structure Rm4 (H : Hp) (a c r : Addr) (n k : Nat) : Prop where
  src : Src H a c
  at_ : H r = some (.lst [.int (n : Int), .int (k : Int)])
  na : r ≠ a
  ne : r ≠ c
def Dr4 (a c r : Addr) (H H' : Hp) : Prop := ∀ b o, H b = some o → b ≠ a → b ≠ c → b ≠ r → H' b = some o
theorem Dr4.trans {a c r : Addr} {H H1 H2 : Hp} (x : Dr4 a c r H H1) (y : Dr4 a c r H1 H2) : Dr4 a c r H H2 := fun b o h n1 n2 n3 => y b o (x b o h n1 n2 n3) n1 n2 n3
theorem Dr4.of_drw {a c r : Addr} {H H' : Hp} (d : Drw a c H H') : Dr4 a c r H H' := fun b o h n1 n2 _ => d.k b o h n1 n2
theorem Dr4.of_same {a c r : Addr} {H H' : Hp} (s : Same H H') : Dr4 a c r H H' := fun b o h _ _ _ => s b o h
theorem Rm4.drw {H H' : Hp} {a c r : Addr} {n k : Nat} (R : Rm4 H a c r n k) (d : Drw a c H H') : Rm4 H' a c r n k := ⟨d.s, d.k _ _ R.at_ R.na R.ne, R.na, R.ne⟩
theorem Rm4.same {H H' : Hp} {a c r : Addr} {n k : Nat} (R : Rm4 H a c r n k) (s : Same H H') : Rm4 H' a c r n k := ⟨R.src.same s, s _ _ R.at_, R.na, R.ne⟩
theorem Rm4.at' {H H' : Hp} {a c r : Addr} {n k : Nat} (R : Rm4 H a c r n k) (x : Dr4 a c r H H') {p : Addr} {o : HO} (e : H p = some o) (ne : ∀ xs, o ≠ .lst xs) : H' p = some o := by
  obtain ⟨_, ns, i, sm, k, x1, x2, _⟩ := R.src
  refine x p o e (fun z => ?_) (fun z => ?_) (fun z => ?_)
  · subst z
    exact ne _ (Option.some.inj (e.symm.trans x1))
  · subst z
    exact ne _ (Option.some.inj (e.symm.trans x2))
  · subst z
    exact ne _ (Option.some.inj (e.symm.trans R.at_))
mutual
theorem Rp.dr4 {K : PySem.W.Frag} {H H' : Hp} {a c r : Addr} {n k n' k' : Nat} (R : Rm4 H a c r n k) (R' : Rm4 H' a c r n' k') (x : Dr4 a c r H H') : ∀ {v : V} {d : DT}, Rp K H v d → Rp K H' v d
  | _, _, .non => .non
  | _, _, .bl b => .bl b
  | _, _, .int i => .int i
  | _, _, .str z => .str z
  | _, _, .tup e r => .tup (R.at' x e (fun _ => nofun)) (RpAll.dr4 R R' x r)
  | _, _, .lst (p := p) (xs := xs) e => by
    obtain ⟨_, ns, i, sm, k, x1, x2, _⟩ := R'.src
    by_cases h1 : p = a
    · subst h1
      exact .lst x1
    · by_cases h2 : p = c
      · subst h2
        exact .lst x2
      · by_cases h3 : p = r
        · subst h3
          exact .lst R'.at_
        · exact .lst (x p _ e h1 h2 h3)
  | _, _, .dct e => .dct (R.at' x e (fun _ => nofun))
  | _, _, .ins e c => .ins (R.at' x e (fun _ => nofun)) c
theorem RpAll.dr4 {K : PySem.W.Frag} {H H' : Hp} {a c r : Addr} {n k n' k' : Nat} (R : Rm4 H a c r n k) (R' : Rm4 H' a c r n' k') (x : Dr4 a c r H H') : ∀ {vs : List V} {ds : List DT}, RpAll K H vs ds → RpAll K H' vs ds
  | _, _, .nil => .nil
  | _, _, .cons h t => .cons (Rp.dr4 R R' x h) (RpAll.dr4 R R' x t)
end
theorem Rm4.put {H : Hp} {a c r : Addr} {n k n' k' : Nat} (R : Rm4 H a c r n k) : Rm4 (upd H r (.lst [.int (n' : Int), .int (k' : Int)])) a c r n' k' ∧ Dr4 a c r H (upd H r (.lst [.int (n' : Int), .int (k' : Int)])) :=
  ⟨⟨R.src.of_ne R.na.symm R.ne.symm, upd_same, R.na, R.ne⟩, fun b o h _ _ nr => by rw [upd_ne nr]; exact h⟩
theorem Rm4.updL {H : Hp} {a c r D : Addr} {n k : Nat} {o : HO} (R : Rm4 H a c r n k) (ha : D ≠ a) (hc : D ≠ c) (hr : D ≠ r) : Rm4 (upd H D o) a c r n k := ⟨R.src.of_ne ha.symm hc.symm, by rw [upd_ne hr.symm]; exact R.at_, R.na, R.ne⟩
theorem Rm4.fresh {H : Hp} {a c r D : Addr} {n k : Nat} (R : Rm4 H a c r n k) (hD : H D = none) : D ≠ a ∧ D ≠ c ∧ D ≠ r := by
  refine ⟨free_ne R.src.some_a hD, free_ne R.src.some_c hD, fun z => ?_⟩
  subst z
  rw [R.at_] at hD
  cases hD
theorem rp_sn {K : PySem.W.Frag} {H : Hp} {vs : List V} {ds : List DT} {v : V} {d : DT} (h : RpAll K H vs ds) (r : Rp K H v d) : RpAll K H (vs ++ [v]) (ds ++ [d]) := h.append (.cons r .nil)
theorem mem_sn {p : DT → Prop} {ds : List DT} {d : DT} (h : ∀ x ∈ ds, p x) (hd : p d) : ∀ x ∈ ds ++ [d], p x := fun x hx => by
  rcases List.mem_append.mp hx with hx | hx
  · exact h x hx
  · rw [List.mem_singleton.mp hx]
    exact hd
def spSimp4 (K : PySem.W.Frag) : Sp := fun vs H Q _ => ∃ a c lp, vs = [.ref a, .bl lp] ∧ Src H a c ∧ ∀ v d H', Rp K H' v d → Smp4 lp d → Drw a c H H' → Q v H'
/-- what comes of a block: its statements, its choices -/
def spBlk4 (K : PySem.W.Frag) (m : Nat) : Sp := fun vs H Q _ => ∃ (a c r : Addr) (n k : Nat) (lp : Bool), vs = [.ref a, .ref r, .int (m : Int), .bl lp] ∧ Rm4 H a c r n k ∧ n ≤ 1000 ∧ 1 ≤ k ∧ k ≤ 96 ∧
  ∀ v l H' n' k', Rp K H' v (.tup l) → gen4 (m + 1) lp (.tup l) → l.length ≤ 3 → (∀ q, cntW q (.tup l) + 2 * n' ≤ 2 * n) → (∀ q, prodW q (.tup l) * k ≤ k') → 1 ≤ k' → k' ≤ 96 → Rm4 H' a c r n' k' → Dr4 a c r H H' → Q v H'
def spBr4 (K : PySem.W.Frag) (m : Nat) : Sp := fun vs H Q _ => ∃ (a c r : Addr) (n k : Nat) (lp : Bool), vs = [.ref a, .ref r, .int (m : Int), .bl lp] ∧ Rm4 H a c r n k ∧ n ≤ 1000 ∧ 1 ≤ k ∧ k ≤ 96 ∧
  ∀ v d H' n' k', Rp K H' v d → Itm4 (m + 1) lp d → (∀ q, wtW (cntW q) d + 2 * n' ≤ 2 + 2 * n) → (∀ q, prodI (prodW q) d * k ≤ k') → 1 ≤ k' → k' ≤ 96 → Rm4 H' a c r n' k' → Dr4 a c r H H' → Q v H'
def spBrP4 (K : PySem.W.Frag) : Nat → Sp
  | 0 => fun _ _ _ _ => False
  | m + 1 => spBr4 K m
section
variable {P : Program} {w : World} {K : PySem.W.Frag} {mg : Str → Option Value} {base : Heap}
abbrev nS4 : List Str := ["_law_source_here", "_law_looped", "_law_kind"]
theorem scSimp4 : FnScope nS4 ["_law_source_here", "_law_looped"] (defScope lSimple) := ⟨rfl, rfl, rfl, by decide +kernel, rfl, by decide +kernel, by decide +kernel⟩
theorem np_set4 {s : Str} {e : DT} (h : s ∈ S1c) (he : ∀ k ∈ namesX 4 e, k ∈ S1c) : NP S1c S2c (setD s e) := ⟨fun k hk => by
  rw [names_set] at hk
  rcases List.mem_cons.mp hk with rfl | hk
  · exact h
  · exact he k hk, fun k hk => absurd (ports_no (d := setD s e) (h := "set") rfl (by decide) (by decide) (by decide) ▸ hk) (by simp)⟩
theorem np_no4 {d : DT} {h : Str} (e : headB d = h) (h1 : h ≠ "set") (h2 : h ≠ "tell") (h3 : h ≠ "if") (h4 : h ≠ "hear") (h5 : h ≠ "wait") : NP S1c S2c d :=
  ⟨fun k hk => absurd (names_no e h1 h2 h3 h4 h5 ▸ hk) (by simp), fun k hk => absurd (ports_no e h2 h4 h5 ▸ hk) (by simp)⟩
theorem smp_tell {lp : Bool} {i : Int} (h0 : 0 ≤ i) (h1 : i ≤ 9) : Smp4 lp (tellD "p" (.int i)) := by
  have s := simp_tell n_a.2.1 (expr_digit (n := 4) (digit_int h0 h1))
  refine ⟨s.st, ⟨fun k hk => ?_, fun k hk => ?_⟩, s.bl, fun z => absurd z s.h1⟩
  · rw [names_tell, namesX_digit (digit_int h0 h1)] at hk
    cases hk
  · rw [ports_tell] at hk
    rw [List.mem_singleton.mp hk]
    decide +kernel
theorem smp_hear {lp : Bool} : Smp4 lp (hearD "q" "a") := by
  have s := simp_hear n_a.2.2 n_a.1
  refine ⟨s.st, ⟨fun k hk => ?_, fun k hk => ?_⟩, s.bl, fun z => absurd z s.h1⟩
  · rw [names_hear] at hk
    rw [List.mem_singleton.mp hk]
    decide +kernel
  · rw [ports_hear] at hk
    rw [List.mem_singleton.mp hk]
    decide +kernel
theorem smp_home {lp : Bool} : Smp4 lp homeD := ⟨simp_home.st, np_no4 (h := "home") rfl (by decide) (by decide) (by decide) (by decide) (by decide), simp_home.bl, fun z => absurd z simp_home.h1⟩
theorem smp_fail {lp : Bool} : Smp4 lp failD := ⟨simp_fail.st, np_no4 (h := "fail") rfl (by decide) (by decide) (by decide) (by decide) (by decide), simp_fail.bl, fun z => absurd z simp_fail.h1⟩
theorem smp_leave : Smp4 true leaveD := ⟨stmt_of (kb_word (.inl rfl)) rfl, np_no4 (h := "leave") rfl (by decide) (by decide) (by decide) (by decide) (by decide), bl_none (ne_head (by decide)) (ne_head (by decide)) (ne_head (by decide)) (ne_head (by decide)), fun _ => rfl⟩
theorem smp_set {lp : Bool} {s t : Str} (hs : s ∈ S1c) (ht : t ∈ S1c) (ns : nameB (.str s) = true) (nt : nameB (.str t) = true) : Smp4 lp (setD s (nameD t)) := by
  have z := simp_set ns (expr_nameD (n := 4) nt)
  refine ⟨z.st, np_set4 hs (fun k hk => ?_), z.bl, fun y => absurd y z.h1⟩
  rw [namesX_name] at hk
  rw [List.mem_singleton.mp hk]
  exact ht
theorem ok_simp4 {f fD : Addr} {fd fdD : FuncData} (F : Fun K "_law_simple" "_law_simple" lSimple f fd)
    (GD : FnOk P w K mg base CX0 2 fD fdD ["_law_source_here", "_law_many"] spDraw) (kD : PySem.W.keepIn K (.ref fD) = true) (bD : Binds K fdD ["_law_source_here", "_law_many"] []) (mD : mg "_law_draw" = some (.ref fD)) :
    FnOk P w K mg base CX0 3 f fd ["_law_source_here", "_law_looped"] (spSimp4 K) := by
  refine F.ok scSimp4 (fun vs H Q E h => ?_) (fun cdv A outer s H vs Q E hr h => ?_)
  · obtain ⟨a, c, lp, rfl, _⟩ := h
    rfl
  · obtain ⟨a, c, lp, rfl, S, k⟩ := h
    refine ⟨_, (pss_cons (ps_set (i := 2) scSimp4.nd rfl (Or.inl rfl) (pe_call GD hr (by rfl) mD kD bD .nil pass0 (pa_cons (pv 0) (pa_cons pe_int pa_nil))))
      (pss_cons (ps_if (pw_and (pt_cmpR op_lt (pv 2) pe_int (nomark _)) (pw_and1 (pt_val (pv 1)))).pt
        (pss_one (ps_ret (pe_tup (pa_cons pe_str pa_nil)))) pss_nil)
      (pss_cons (ps_if (pt_cmpR op_lt (pv 2) pe_int (nomark _))
        (pss_one (ps_ret (pe_tup (pa_cons pe_str (pa_cons (pe_ix ix_str pe_str (pe_call GD hr (by rfl) mD kD bD .nil pass0 (pa_cons (pv 0) (pa_cons pe_int pa_nil))) (fun _ _ => rfl)) (pa_cons (pe_tup (pa_cons pe_str (pa_cons (pe_ix ix_str pe_str (pe_call GD hr (by rfl) mD kD bD .nil pass0 (pa_cons (pv 0) (pa_cons pe_int pa_nil))) (fun _ _ => rfl)) pa_nil))) pa_nil)))))) pss_nil)
      (pss_cons (ps_if (pt_cmpR op_eq (pv 2) pe_int (nomark _))
        (pss_one (ps_ret (pe_tup (pa_cons pe_str (pa_cons pe_str (pa_cons (pe_call GD hr (by rfl) mD kD bD .nil pass0 (pa_cons (pv 0) (pa_cons pe_int pa_nil))) pa_nil)))))) pss_nil)
      (pss_cons (ps_if (pt_cmpR op_eq (pv 2) pe_int (nomark _))
        (pss_one (ps_ret (pe_tup (pa_cons pe_str (pa_cons pe_str (pa_cons pe_str pa_nil)))))) pss_nil)
      (pss_one (ps_ret (pe_ix ix_list (pe_lst (pa_cons (pe_tup (pa_cons pe_str pa_nil)) (pa_cons (pe_tup (pa_cons pe_str pa_nil)) pa_nil))) (pe_call GD hr (by rfl) mD kD bD .nil pass0 (pa_cons (pv 0) (pa_cons pe_int pa_nil))) (fun _ _ => rfl))))))))), ?_⟩
    refine ⟨_, rfl, a, c, 9, rfl, S, by decide, log2_small (by decide) (by decide), fun g H1 g0 g1 S1' K1 => ?_⟩
    have D1 : Drw a c H H1 := ⟨K1, S1'⟩
    have lv : lp = true → ∀ p, H1 p = none → Q (.ref p) (upd H1 p (.tup [.str "leave"])) := fun z p np => by
      subst z
      exact k _ leaveD _ (.tup upd_same (.cons (.str (by decide +kernel)) .nil)) smp_leave (D1.trans (Drw.of_same S1' (Same.new np)))
    refine ⟨_, rfl, _, _, rfl, rfl, _, rfl, ite2 (fun _ => ⟨_, rfl, _, rfl, ?a⟩) (fun _ => iteF ?b)⟩
    case' a =>
      cases lp
      rotate_left
      · exact iteT ⟨by show 1 ≤ sizeLine; decide, fun p np => lv rfl p np⟩
      refine iteF ?c
    all_goals
      refine ⟨_, rfl, _, _, rfl, rfl, _, rfl, ite2 (fun _ => ?_) (fun _ => ⟨_, rfl, rfl, _, rfl, ite2 (fun _ => ?_) (fun _ => ⟨_, rfl, rfl, _, rfl, ite2 (fun _ => ?_) (fun _ => ?_)⟩)⟩)⟩
      · refine ⟨_, rfl, a, c, 3, rfl, S1', by decide, log2_small (by decide) (by decide), fun e H2 e0 e1 S2' K2 => ?_⟩
        obtain ⟨i, rfl⟩ : ∃ i : Nat, e = (i : Int) := ⟨e.toNat, by omega⟩
        obtain ⟨ch, h1, h2, h3⟩ := abc3 i (by omega)
        refine ⟨_, _, _, rfl, rfl, by decide +kernel, atI_nat h1, _, rfl, a, c, 3, rfl, S2', by decide, log2_small (by decide) (by decide), fun e H3 e0 e1 S3 K3 => ?_⟩
        obtain ⟨j, rfl⟩ : ∃ i : Nat, e = (i : Int) := ⟨e.toNat, by omega⟩
        obtain ⟨ch2, g1, g2, g3⟩ := abc3 j (by omega)
        refine ⟨_, _, _, rfl, rfl, by decide +kernel, atI_nat g1, by show 2 ≤ sizeLine; decide, fun p np => ⟨by show 3 ≤ sizeLine; decide, fun q nq => ?_⟩⟩
        have D3 := D1.trans (Drw.trans ⟨K2, S2'⟩ ⟨K3, S3⟩)
        have sp := Same.new (o := .tup [.str "name", .str ⟨#[ch2]⟩]) np
        have sq := Same.new (o := .tup [.str "set", .str ⟨#[ch]⟩, .ref p]) nq
        exact k _ (setD ⟨#[ch]⟩ (nameD ⟨#[ch2]⟩)) _ (.tup upd_same (.cons (.str (by decide +kernel)) (.cons (.str (by show 1 ≤ 1000; decide)) (.cons (.tup (sq _ _ upd_same) (.cons (.str (by decide +kernel)) (.cons (.str (by show 1 ≤ 1000; decide)) .nil))) .nil)))) (smp_set h2 g2 h3 g3) (D3.trans (Drw.of_same S3 (sp.trans sq)))
      · refine ⟨_, rfl, a, c, 10, rfl, S1', by decide, log2_small (by decide) (by decide), fun e H2 e0 e1 S2' K2 => ⟨by show 3 ≤ sizeLine; decide, fun q nq => ?_⟩⟩
        exact k _ (tellD "p" (.int e)) _ (.tup upd_same (.cons (.str (by decide +kernel)) (.cons (.str (by decide +kernel)) (.cons (.int _) .nil)))) (smp_tell e0 (by omega)) (D1.trans (Drw.trans ⟨K2, S2'⟩ (Drw.of_same S2' (Same.new nq))))
      · exact ⟨by show 3 ≤ sizeLine; decide, fun q nq => k _ (hearD "q" "a") _ (.tup upd_same (.cons (.str (by decide +kernel)) (.cons (.str (by decide +kernel)) (.cons (.str (by decide +kernel)) .nil)))) smp_hear (D1.trans (Drw.of_same S1' (Same.new nq)))⟩
      · refine ⟨by show 1 ≤ sizeLine; decide, fun p np => ⟨by show 1 ≤ sizeLine; decide, fun q nq => ⟨by show 2 ≤ sizeLine; decide, fun L nL => ?_⟩⟩⟩
        have sp := Same.new (o := .tup [.str "home"]) np
        have sq := Same.new (o := .tup [.str "fail"]) nq
        have sL := Same.new (o := .lst [.ref p, .ref q]) nL
        have hp := sL _ _ (sq _ _ (upd_same (H := H1) (a := p) (o := .tup [.str "home"])))
        have hq := sL _ _ (upd_same (H := upd H1 p (.tup [.str "home"])) (a := q) (o := .tup [.str "fail"]))
        have hL : upd (upd (upd H1 p (.tup [.str "home"])) q (.tup [.str "fail"])) L (.lst [.ref p, .ref q]) L = some (.lst [.ref p, .ref q]) := upd_same
        have s3 := sp.trans (sq.trans sL)
        generalize upd (upd (upd H1 p (.tup [.str "home"])) q (.tup [.str "fail"])) L (.lst [.ref p, .ref q]) = H2 at hp hq hL s3 ⊢
        have nL2 := free_ne ((S1'.same (sp.trans sq)).some_a) nL
        have nL3 := free_ne ((S1'.same (sp.trans sq)).some_c) nL
        refine ⟨_, rfl, a, c, 2, rfl, S1'.same s3, by decide, log2_small (by decide) (by decide), fun e H3 e0 e1 S3 K3 => ?_⟩
        have d3 : Drw a c H2 H3 := ⟨K3, S3⟩
        have D3 := D1.trans ((Drw.of_same S1' s3).trans d3)
        rcases (show e = 0 ∨ e = 1 by omega) with rfl | rfl
        · exact ⟨L, _, _, _, rfl, rfl, SqL.of (K3 _ _ hL nL2 nL3), at_of (j := 0) rfl rfl, k _ homeD _ (.tup (d3.at (S1'.same s3) hp (fun _ => nofun)) (.cons (.str (by decide +kernel)) .nil)) smp_home D3⟩
        · exact ⟨L, _, _, _, rfl, rfl, SqL.of (K3 _ _ hL nL2 nL3), at_of (j := 1) rfl rfl, k _ failD _ (.tup (d3.at (S1'.same s3) hq (fun _ => nofun)) (.cons (.str (by decide +kernel)) .nil)) smp_fail D3⟩
abbrev p4b : List Str := ["_law_source_here", "_law_room", "_law_depth", "_law_looped"]
abbrev nBk4 : List Str := ["_law_source_here", "_law_room", "_law_depth", "_law_looped", "_law_found", "_law_k"]
theorem scBlk4 : FnScope nBk4 p4b (defScope lBlock) := ⟨rfl, rfl, rfl, by decide +kernel, rfl, by decide +kernel, by decide +kernel⟩
theorem mul_step {x y k0 k1 k2 : Nat} (h1 : x * k0 ≤ k1) (h2 : y * k1 ≤ k2) : x * y * k0 ≤ k2 := by
  have e : x * y * k0 = y * (x * k0) := by rw [Nat.mul_comm x y, Nat.mul_assoc]
  rw [e]
  exact Nat.le_trans (Nat.mul_le_mul_left y h1) h2
theorem block4_step {m j : Nat} {f fD fR fS : Addr} {fd fdD fdR fdS : FuncData} (F : Fun K "_law_block" "_law_block" lBlock f fd) (T : TxtO mg) (hj : 3 ≤ j)
    (GD : FnOk P w K mg base CX0 2 fD fdD ["_law_source_here", "_law_many"] spDraw) (kD : PySem.W.keepIn K (.ref fD) = true) (bD : Binds K fdD ["_law_source_here", "_law_many"] []) (mD : mg "_law_draw" = some (.ref fD))
    (GS : FnOk P w K mg base CX0 3 fS fdS ["_law_source_here", "_law_looped"] (spSimp4 K)) (kS : PySem.W.keepIn K (.ref fS) = true) (bS : Binds K fdS ["_law_source_here", "_law_looped"] []) (mS : mg "_law_simple" = some (.ref fS))
    (GR : FnOk P w K mg base CX0 j fR fdR p4b (spBrP4 K m)) (kR : PySem.W.keepIn K (.ref fR) = true) (bR : Binds K fdR p4b []) (mR : mg "_law_branching" = some (.ref fR)) :
    FnOk P w K mg base CX0 (j + 1) f fd p4b (spBlk4 K m) := by
  refine F.ok scBlk4 (fun vs H Q E h => ?_) (fun cdv A outer s H vs Q E hr h => ?_)
  · obtain ⟨a, c, r, n, k, lp, rfl, _⟩ := h
    rfl
  · obtain ⟨a, c, r, n, k0, lp, rfl, R, hn, hk1, hk9, k⟩ := h
    have hr2 : Room 2 _ := hr.mono (by omega)
    have hr3 : Room 3 _ := hr.mono hj
    refine ⟨_, (pss_cons (ps_set (i := 4) scBlk4.nd rfl (Or.inl rfl) (pe_lst pa_nil))
      (pss_cons (ps_for PassesOwn.never rfl (pi_range1 (by rfl) T.range (pa_cons (pe_call GD hr2 (by rfl) mD kD bD .nil pass0 (pa_cons (pv 0) (pa_cons pe_int pa_nil))) pa_nil)) (pg_name (i := 5) scBlk4.nd rfl (Or.inl rfl))
        (pss_one (ps_if (pt_cmpR op_gt (pe_ix ix_list (pv 1) pe_int (fun _ _ => rfl)) pe_int (nomark _))
          (pss_cons (ps_asg (pe_op op_sub (pe_ix ix_list (pv 1) pe_int (fun _ _ => rfl)) pe_int) (pg_sub (pv 1) pe_int set_list))
          (pss_one (ps_if (pw_and (pt_cmpR op_gt (pv 2) pe_int (nomark _)) (pw_and1 (pt_cmpR op_eq (pe_call GD hr2 (by rfl) mD kD bD .nil pass0 (pa_cons (pv 0) (pa_cons pe_int pa_nil))) pe_int (nomark _)))).pt
            (pss_one (ps_expr (pe_bm PySem.F.plainAttrs_list PySem.F.slot_list_append PySem.F.type_list_append mt_append (pv 4) (pa_cons (pe_call GR hr (by rfl) mR kR bR .nil pass0 (pa_cons (pv 0) (pa_cons (pv 1) (pa_cons (pe_op op_sub (pv 2) pe_int) (pa_cons (pv 3) pa_nil))))) pa_nil)))) (pss_one (ps_expr (pe_bm PySem.F.plainAttrs_list PySem.F.slot_list_append PySem.F.type_list_append mt_append (pv 4) (pa_cons (pe_call GS hr3 (by rfl) mS kS bS .nil pass0 (pa_cons (pv 0) (pa_cons (pv 3) pa_nil))) pa_nil))))))) pss_nil)))
      (pss_one (ps_ret (pe_callTy call_tuple_of (by rfl) T.tuple (by decide +kernel) (pa_cons (pv 4) pa_nil)))))), ?_⟩
    refine ⟨by decide, fun L nL => ?_⟩
    obtain ⟨La, Lc, Lr⟩ := R.fresh nL
    have s0 : Same H (upd H L (.lst [])) := Same.new nL
    refine ⟨_, rfl, a, c, 4, rfl, (R.same s0).src, by decide, log2_small (by decide) (by decide), fun g H1 g0 g1 S1' K1 => ?_⟩
    have R1 : Rm4 H1 a c r n k0 := (R.same s0).drw ⟨K1, S1'⟩
    have D1 : Dr4 a c r H H1 := (Dr4.of_same s0).trans (Dr4.of_drw ⟨K1, S1'⟩)
    have hL1 : H1 L = some (.lst []) := K1 _ _ upd_same La Lc
    obtain ⟨N, rfl⟩ : ∃ N : Nat, g = (N : Int) := ⟨g.toNat, by omega⟩
    refine ⟨N, rfl, by omega, by omega, for_range (lo := 0) (n := N) (fun i σ H' => ∃ (x5 : Option V) (n1 k1 : Nat) (xs : List V) (ds : List DT), σ = [some (.ref a), some (.ref r), some (.int (m : Int)), some (.bl lp), some (.ref L), x5] ∧ H' L = some (.lst xs) ∧ RpAll K H' xs ds ∧ ds.length ≤ i ∧ (∀ d ∈ ds, Itm4 m lp d) ∧
        (∀ q, (ds.map (wtW (cntW q))).sum + 2 * n1 ≤ 2 * n) ∧ (∀ q, mulL (ds.map (prodI (prodW q))) * k0 ≤ k1) ∧ 1 ≤ k1 ∧ k1 ≤ 96 ∧ Rm4 H' a c r n1 k1 ∧ Dr4 a c r H H') ⟨_, n, k0, [], [], rfl, hL1, .nil, Nat.le_refl _, (fun d hd => by cases hd), (fun q => (by show 0 + 2 * n ≤ 2 * n; omega)), (fun q => by show 1 * k0 ≤ k0; omega), hk1, hk9, R1, D1⟩ ?_ ?_⟩
    · rintro i σ H2 hi ⟨x5, n1, k1, xs, ds, rfl, hL, ra, ld, hd, hc, hp, hk1', hk9', R2, D2⟩
      refine ⟨_, rfl, r, _, _, _, rfl, rfl, SqL.of R2.at_, rfl, _, _, rfl, rfl, _, rfl, ite2 (fun z => ?_) (fun _ => ?_)⟩
      · have n0 : 0 < n1 := by
          have := of_decide_eq_true z
          omega
        refine ⟨_, rfl, r, _, _, _, rfl, rfl, SqL.of R2.at_, rfl, _, _, rfl, rfl, _, rfl, r, _, _, 0, rfl, rfl, R2.at_, rfl, ?_⟩
        have en : ((n1 : Int) - 1) = ((n1 - 1 : Nat) : Int) := by omega
        obtain ⟨R3, D3⟩ := R2.put (n' := n1 - 1) (k' := k1)
        have hL3 : upd H2 r (.lst [.int ((n1 - 1 : Nat) : Int), .int (k1 : Int)]) L = some (.lst xs) := by rw [upd_ne Lr]; exact hL
        have ra3 : RpAll K (upd H2 r (.lst [.int ((n1 - 1 : Nat) : Int), .int (k1 : Int)])) xs ds := RpAll.dr4 R2 R3 D3 ra
        have eH : (upd H2 r (HO.lst ([V.int (n1 : Int), V.int (k1 : Int)].set 0 ((fun i j => V.int (i - j)) (n1 : Int) 1)))) = upd H2 r (.lst [.int ((n1 - 1 : Nat) : Int), .int (k1 : Int)]) := by
          show upd H2 r (.lst [.int ((n1 : Int) - 1), .int (k1 : Int)]) = _
          rw [en]
        rw [eH]
        generalize upd H2 r (.lst [.int ((n1 - 1 : Nat) : Int), .int (k1 : Int)]) = H3 at R3 D3 hL3 ra3 ⊢
        have D23 := D2.trans D3
        -- a simple one
        have smp : ∀ (H4 : Hp), Drw a c H3 H4 → ∀ v d H5, Rp K H5 v d → Smp4 lp d → Drw a c H4 H5 → ∃ (l : Addr) (ys : List V) (y : V), V.ref L = .ref l ∧ [v] = [y] ∧ H5 l = some (.lst ys) ∧ ys.length < sizeLine ∧
            ∃ (x5 : Option V) (n1 k1 : Nat) (xs : List V) (ds : List DT), [some (V.ref a), some (.ref r), some (.int (m : Int)), some (.bl lp), some (.ref L), some (.int (0 + (i : Int)))] = [some (.ref a), some (.ref r), some (.int (m : Int)), some (.bl lp), some (.ref L), x5] ∧ upd H5 l (.lst (ys ++ [y])) L = some (.lst xs) ∧ RpAll K (upd H5 l (.lst (ys ++ [y]))) xs ds ∧ ds.length ≤ i + 1 ∧ (∀ d ∈ ds, Itm4 m lp d) ∧
              (∀ q, (ds.map (wtW (cntW q))).sum + 2 * n1 ≤ 2 * n) ∧ (∀ q, mulL (ds.map (prodI (prodW q))) * k0 ≤ k1) ∧ 1 ≤ k1 ∧ k1 ≤ 96 ∧ Rm4 (upd H5 l (.lst (ys ++ [y]))) a c r n1 k1 ∧ Dr4 a c r H (upd H5 l (.lst (ys ++ [y]))) := fun H4 d4 v d H5 r5 sm5 d5 => by
          have d45 := d4.trans d5
          have hL5 : H5 L = some (.lst xs) := d45.k _ _ hL3 La Lc
          refine ⟨L, xs, v, rfl, rfl, hL5, small1000 (by rw [ra.len]; omega), _, n1 - 1, k1, xs ++ [v], ds ++ [d], rfl, upd_same, (rp_sn (RpAll.drw R3.src d45 ra3) r5).updL hL5, by rw [List.length_append]; show ds.length + 1 ≤ i + 1; omega, mem_sn hd (sm5.itm m), fun q => ?_, fun q => ?_, hk1', hk9', (R3.drw d45).updL La Lc Lr, fun b o hb na nc nr => ?_⟩
          · rw [List.map_append, List.sum_append]
            show _ + (wtW (cntW q) d + 0) + _ ≤ _
            rw [sm5.wt]
            have := hc q
            omega
          · rw [List.map_append, mulL_append]
            show mulL _ * (prodI (prodW q) d * 1) * k0 ≤ k1
            rw [sm5.pr]
            simp only [Nat.mul_one]
            exact hp q
          · rw [upd_ne (ne_of_none hb nL)]
            exact d45.k b o (D23 b o hb na nc nr) na nc
        refine ⟨_, rfl, _, _, rfl, rfl, _, rfl, ite2 (fun zm => ⟨_, rfl, a, c, 2, rfl, R3.src, by decide, log2_small (by decide) (by decide), fun e H4 e0 e1 S4 K4 => ⟨rfl, _, rfl, ite2 (fun _ => ?_) (fun _ => ?_)⟩⟩) (fun _ => iteF ?_)⟩
        · cases m with
          | zero => exact absurd (of_decide_eq_true zm) (by decide)
          | succ m =>
            have d4 : Drw a c H3 H4 := ⟨K4, S4⟩
            have hL4 := K4 _ _ hL3 La Lc
            have R4 := R3.drw d4
            have D4 := D23.trans (Dr4.of_drw d4)
            refine ⟨_, rfl, .inl ⟨rfl, _, SqL.of hL4⟩, _, rfl, _, rfl, _, rfl, _, _, rfl, rfl, _, rfl, a, c, r, n1 - 1, k1, lp, (by show [V.ref a, V.ref r, V.int (((m + 1 : Nat) : Int) - 1), V.bl lp] = [V.ref a, V.ref r, V.int (m : Int), V.bl lp]; rw [show ((m + 1 : Nat) : Int) - 1 = (m : Int) by omega]), R4, ?_, hk1', hk9', fun v d H5 n5 k5 r5 i5 c5 q5 h15 h95 R5 D5 => ?_⟩
            · have := hc 0
              omega
            have hL5 := D5 _ _ hL4 La Lc Lr
            refine ⟨L, xs, v, rfl, rfl, hL5, small1000 (by rw [ra.len]; omega), _, n5, k5, xs ++ [v], ds ++ [d], rfl, upd_same, (rp_sn (RpAll.dr4 R4 R5 D5 (RpAll.drw R3.src d4 ra3)) r5).updL hL5, by rw [List.length_append]; show ds.length + 1 ≤ i + 1; omega, mem_sn hd i5, fun q => ?_, fun q => ?_, h15, h95, R5.updL La Lc Lr, fun b o hb na nc nr => ?_⟩
            · rw [List.map_append, List.sum_append]
              show _ + (wtW (cntW q) d + 0) + _ ≤ _
              have := hc q
              have := c5 q
              omega
            · rw [List.map_append, mulL_append]
              show mulL _ * (prodI (prodW q) d * 1) * k0 ≤ k5
              rw [Nat.mul_one]
              exact mul_step (hp q) (q5 q)
            · rw [upd_ne (ne_of_none hb nL)]
              exact D5 b o (D4 b o hb na nc nr) na nc nr
        · have d4 : Drw a c H3 H4 := ⟨K4, S4⟩
          have hL4 := K4 _ _ hL3 La Lc
          exact ⟨_, rfl, .inl ⟨rfl, _, SqL.of hL4⟩, _, rfl, _, rfl, a, c, lp, rfl, S4, fun v d H5 r5 sm5 d5 => smp H4 d4 v d H5 r5 sm5 d5⟩
        · exact ⟨_, rfl, .inl ⟨rfl, _, SqL.of hL3⟩, _, rfl, _, rfl, a, c, lp, rfl, R3.src, fun v d H5 r5 sm5 d5 => smp H3 (Drw.refl R3.src) v d H5 r5 sm5 d5⟩
      · exact ⟨_, n1, k1, xs, ds, rfl, hL, ra, by omega, hd, hc, hp, hk1', hk9', R2, D2⟩
    · rintro σ H2 ⟨x5, n1, k1, xs, ds, rfl, hL, ra, ld, hd, hc, hp, hk1', hk9', R2, D2⟩
      refine ⟨_, rfl, L, xs, rfl, .inl ⟨SqL.of hL, fun q nq => ?_⟩⟩
      refine k (.ref q) ds _ n1 k1 (.tup upd_same (ra.keep (Same.new nq))) ⟨decide_eq_true (by omega), hd⟩ (by omega) (fun q => ?_) (fun q => ?_) hk1' hk9' (R2.same (Same.new nq)) (D2.trans (Dr4.of_same (Same.new nq)))
      · cases q with
        | zero => exact Nat.le_trans (Nat.add_le_add_right (Nat.zero_le _) _) (hc 0)
        | succ q => exact hc q
      · cases q with
        | zero =>
          show 1 * k0 ≤ k1
          have p1 : 1 ≤ mulL (ds.map (prodI (prodW 0))) := mulL_pos fun x hx => by
            obtain ⟨d, md, rfl⟩ := List.mem_map.mp hx
            have e1 : mulL ((blocksB d).map (prodW 0)) = 1 := by
              generalize blocksB d = l
              induction l with
              | nil => rfl
              | cons a r ih => show 1 * mulL (r.map (prodW 0)) = 1; rw [ih]
            unfold prodI wP
            rw [e1]
            split
            · rename_i hb
              have := br_some (hd d md).1 (of_decide_eq_true hb)
              omega
            · decide
          exact Nat.le_trans (Nat.mul_le_mul_right k0 p1) (hp 0)
        | succ q => exact hp q
end
end Oh
namespace Oh
open PySem PySem.Spec PyProof.Rows L2 PpSet
def RowA (K : PySem.W.Frag) (H : Hp) (x : V) (r : WRow) : Prop := ∃ (R T : Addr) (vS : V), x = .ref R ∧ H R = some (.tup [.ref T, vS]) ∧ H T = some (.tup (pathV r.1)) ∧ Rp K H vS r.2.1
abbrev RowsA (K : PySem.W.Frag) (H : Hp) (xs : List V) (rs : List WRow) : Prop := Paired (RowA K H) xs rs
theorem RowA.keep {K : PySem.W.Frag} {H H' : Hp} {x : V} {r : WRow} (s : Same H H') (h : RowA K H x r) : RowA K H' x r := by
  obtain ⟨R, T, vS, e, h1, h2, h3⟩ := h
  exact ⟨R, T, vS, e, s _ _ h1, s _ _ h2, h3.keep s⟩
theorem RowA.updL {K : PySem.W.Frag} {H : Hp} {L : Addr} {xs ys : List V} {x : V} {r : WRow} (hL : H L = some (.lst xs)) (h : RowA K H x r) : RowA K (upd H L (.lst ys)) x r := by
  obtain ⟨R, T, vS, e, h1, h2, h3⟩ := h
  have ne : ∀ {p : Addr} {zs : List V}, H p = some (.tup zs) → upd H L (.lst ys) p = some (.tup zs) := fun {p zs} e => by
    rw [upd_ne (fun z => by subst z; rw [hL] at e; cases Option.some.inj e)]
    exact e
  exact ⟨R, T, vS, e, ne h1, ne h2, h3.updL hL⟩
theorem RowsA.keep {K : PySem.W.Frag} {H H' : Hp} (s : Same H H') : ∀ {xs : List V} {rs : List WRow}, RowsA K H xs rs → RowsA K H' xs rs
  | _, _, .nil => .nil
  | _, _, .cons h t => .cons (h.keep s) (RowsA.keep s t)
theorem RowsA.updL {K : PySem.W.Frag} {H : Hp} {L : Addr} {zs ys : List V} (hL : H L = some (.lst zs)) : ∀ {xs : List V} {rs : List WRow}, RowsA K H xs rs → RowsA K (upd H L (.lst ys)) xs rs
  | _, _, .nil => .nil
  | _, _, .cons h t => .cons (h.updL hL) (RowsA.updL hL t)
theorem RowsA.append {K : PySem.W.Frag} {H : Hp} : ∀ {xs ys : List V} {rs qs : List WRow}, RowsA K H xs rs → RowsA K H ys qs → RowsA K H (xs ++ ys) (rs ++ qs)
  | _, _, _, _, .nil, h => h
  | _, _, _, _, .cons h t, z => .cons h (RowsA.append t z)
theorem RowsA.at_ {K : PySem.W.Frag} {H : Hp} : ∀ {xs : List V} {rs : List WRow} {i : Nat} {r : WRow}, RowsA K H xs rs → rs[i]? = some r → ∃ x, xs[i]? = some x ∧ RowA K H x r
  | _, _, _, _, .nil, h => by cases h
  | _, _, 0, _, .cons (a := x) h _, e => ⟨x, rfl, by cases e; exact h⟩
  | _, _, i + 1, _, .cons _ t, e => RowsA.at_ (i := i) t e
theorem items_append {rec : DT → List Nat → Bool → List WRow} {w : List Nat} {lp : Bool} : ∀ (a b : List DT) (i : Nat), itemsW rec w lp (a ++ b) i = itemsW rec w lp a i ++ itemsW rec w lp b (i + a.length)
  | [], b, i => rfl
  | d :: a, b, i => by
    show (w ++ [i], d, lp) :: (inW rec (w ++ [i]) lp d ++ itemsW rec w lp (a ++ b) (i + 1)) = (w ++ [i], d, lp) :: (inW rec (w ++ [i]) lp d ++ itemsW rec w lp a (i + 1)) ++ _
    rw [items_append a b (i + 1), List.length_cons, show i + 1 + a.length = i + (a.length + 1) by omega, List.cons_append, List.append_assoc]
theorem blks_append {rec : DT → List Nat → Bool → List WRow} {w : List Nat} {lp : Bool} : ∀ (a b : List DT) (i : Nat), blocksW rec w lp (a ++ b) i = blocksW rec w lp a i ++ blocksW rec w lp b (i + a.length)
  | [], b, i => rfl
  | d :: a, b, i => by
    show rec d (w ++ [i]) lp ++ blocksW rec w lp (a ++ b) (i + 1) = rec d (w ++ [i]) lp ++ blocksW rec w lp a (i + 1) ++ _
    rw [blks_append a b (i + 1), List.length_cons, show i + 1 + a.length = i + (a.length + 1) by omega, List.append_assoc]
theorem path_go {K : PySem.W.Frag} {H : Hp} {Q : VK} {p q : Addr} {w u : List Nat} (hp : H p = some (.tup (pathV w))) (hq : H q = some (.tup (pathV u))) (hu : u ≠ []) (hl : w.length + u.length ≤ 1000) (k : ∀ r H', Same H H' → H' r = some (.tup (pathV (w ++ u))) → Q (.ref r) H') : rCatA K (.ref p) (.ref q) H Q := by
  refine ⟨p, q, pathV w, pathV u, rfl, rfl, SqT.of hp, SqT.of hq, small9 (by rw [List.length_map, List.length_map]; omega), fun z => ?_, fun _ z => absurd (List.map_eq_nil_iff.mp z) hu, fun _ _ r nr => ?_⟩
  · have : w = [] := List.map_eq_nil_iff.mp z
    subst this
    exact k _ H (Same.refl H) hq
  · refine k r _ (Same.new nr) ?_
    rw [upd_same]
    show some (HO.tup (pathV w ++ pathV u)) = some (HO.tup ((w ++ u).map fun (n : Nat) => V.int (n : Int)))
    rw [List.map_append]
def spList (K : PySem.W.Frag) (m : Nat) : Sp := fun vs H Q _ => ∃ v b p w lp, vs = [v, .ref p] ∧ Rp K H v b ∧ goodR m b = true ∧ H p = some (.tup (pathV w)) ∧ w.length + 2 * m ≤ 100 ∧ cntW m b ≤ 500 ∧
  ∀ L xs H', Same H H' → H L = none → H' L = some (.lst xs) → RowsA K H' xs (rowsW m b w lp) → Q (.ref L) H'
def spListP (K : PySem.W.Frag) : Nat → Sp
  | 0 => fun _ _ _ _ => False
  | m + 1 => spList K m
section
variable {P : Program} {w : World} {K : PySem.W.Frag} {mg : Str → Option Value} {base : Heap}
abbrev nLs : List Str := ["_law_block_here", "_law_ahead", "_law_rows", "_law_index", "_law_path", "_law_parts_here", "_law_number"]
abbrev p2l : List Str := ["_law_block_here", "_law_ahead"]
theorem scListed : FnScope nLs p2l (defScope lListed) := ⟨rfl, rfl, rfl, by decide +kernel, rfl, by decide +kernel, by decide +kernel⟩
theorem list_step {m j : Nat} {f fP : Addr} {fd fdP : FuncData} (F : Fun K "_law_listed" "_law_listed" lListed f fd) (T : TxtO mg) (hj : 1 ≤ j)
    (GP : FnOk P w K mg base CX0 1 fP fdP ["_law_statement"] (spBlocks K)) (kP : PySem.W.keepIn K (.ref fP) = true) (bP : Binds K fdP ["_law_statement"] []) (mP : mg "_law_parts" = some (.ref fP))
    (mL : mg "_law_listed" = some (.ref f)) (bL : Binds K fd p2l []) (GL : FnOk P w K mg base CX0 j f fd p2l (spListP K m)) : FnOk P w K mg base CX0 (j + 1) f fd p2l (spList K m) := by
  have kL := F.kp
  refine F.ok scListed (fun vs H Q E h => ?_) (fun cdv A outer s H vs Q E hr h => ?_)
  · obtain ⟨v, b, p, w, lp, rfl, _⟩ := h
    rfl
  · obtain ⟨v, b, p, w, lp, rfl, rb, hg, hp, hw, hc, k⟩ := h
    have hr1 : Room 1 _ := hr.mono hj
    cases m with
    | zero => cases hg
    | succ m =>
    obtain ⟨hb, hi⟩ := good_parts hg
    obtain ⟨l, rfl, ll⟩ := block_inv hb
    obtain ⟨pb, xb, rfl, hpb, rab⟩ := rb.tup_inv
    have lb := rab.len
    refine ⟨_, (pss_cons (ps_set (i := 2) scListed.nd rfl (Or.inl rfl) (pe_lst pa_nil))
      (pss_cons (ps_for PassesOwn.never rfl (pi_range1 (by rfl) T.range (pa_cons (pe_callB call_len_seq (by rfl) T.len boot_len (pa_cons (pv 0) pa_nil)) pa_nil)) (pg_name (i := 3) scListed.nd rfl (Or.inl rfl))
        (pss_cons (ps_set (i := 4) scListed.nd rfl (Or.inl rfl) (pe_op op_catA (pv 1) (pe_tup (pa_cons (pv 3) pa_nil))))
        (pss_cons (ps_expr (pe_bm PySem.F.plainAttrs_list PySem.F.slot_list_append PySem.F.type_list_append mt_append (pv 2) (pa_cons (pe_tup (pa_cons (pv 4) (pa_cons (pe_ix ix_tup (pv 0) (pv 3) (fun _ _ => rfl)) pa_nil))) pa_nil)))
        (pss_cons (ps_set (i := 5) scListed.nd rfl (Or.inl rfl) (pe_call GP hr1 (by rfl) mP kP bP .nil pass0 (pa_cons (pe_ix ix_tup (pv 0) (pv 3) (fun _ _ => rfl)) pa_nil)))
        (pss_one (ps_for PassesOwn.never rfl (pi_range1 (by rfl) T.range (pa_cons (pe_callB call_len_seq (by rfl) T.len boot_len (pa_cons (pv 5) pa_nil)) pa_nil)) (pg_name (i := 6) scListed.nd rfl (Or.inl rfl))
          (pss_one (ps_set (i := 2) scListed.nd rfl (Or.inl rfl) (pe_op op_cat (pv 2) (pe_call GL hr (by rfl) mL kL bL .nil pass0 (pa_cons (pe_ix ix_list (pv 5) (pv 6) (fun _ _ => rfl)) (pa_cons (pe_op op_catA (pv 4) (pe_tup (pa_cons (pv 6) pa_nil))) pa_nil))))))))))))
      (pss_one (ps_ret (pv 2))))), ?_⟩
    have tot : (itemsW (rowsW m) w lp l 0).length ≤ 500 := by
      have z : (rowsW (m + 1) (.tup l) w lp).length = cntW (m + 1) (.tup l) := rows_len
      have z2 : rowsW (m + 1) (.tup l) w lp = itemsW (rowsW m) w lp l 0 := rfl
      rw [← z2, z]
      exact hc
    refine ⟨by show 0 ≤ sizeLine; decide, fun L0 nL0 => ?_⟩
    have s0 := Same.new (o := .lst []) nL0
    refine ⟨_, rfl, pb, xb, rfl, .inr (SqT.of (s0 _ _ hpb)), _, rfl, by omega, by omega, for_range (lo := 0) (n := xb.length) (fun i σ H' => ∃ (L : Addr) (xs : List V) (x3 x4 x5 x6 : Option V), σ = [some (.ref pb), some (.ref p), some (.ref L), x3, x4, x5, x6] ∧ Same H H' ∧ H L = none ∧ H' L = some (.lst xs) ∧ RowsA K H' xs (itemsW (rowsW m) w lp (l.take i) 0))
      ⟨L0, [], _, _, _, _, rfl, s0, nL0, upd_same, .nil⟩ ?_ ?_⟩
    · rintro i σ H1 hi' ⟨L, xs, x3, x4, x5, x6, rfl, s1, nL, hL, ra⟩
      have li : i < l.length := by omega
      have ed : l[i]? = some l[i] := List.getElem?_eq_getElem li
      have tk : l.take (i + 1) = l.take i ++ [l[i]] := by rw [List.take_add_one, ed]; rfl
      obtain ⟨vi, ev, rv⟩ := rab.get ed
      obtain ⟨hs, hx⟩ := hi l[i] (List.getElem_mem li)
      have cut : itemsW (rowsW m) w lp (l.take (i + 1)) 0 = itemsW (rowsW m) w lp (l.take i) 0 ++ ((w ++ [i], l[i], lp) :: blocksW (rowsW m) (w ++ [i]) (lp || decide (headB l[i] = "repeat")) (blocksB l[i]) 0) := by
        rw [tk, items_append, Nat.zero_add, List.length_take, Nat.min_eq_left (by omega)]
        congr 1
        show (w ++ [i], l[i], lp) :: (inW (rowsW m) (w ++ [i]) lp l[i] ++ []) = _
        rw [List.append_nil]
        unfold inW
        rw [if_pos hs]
      have few : (itemsW (rowsW m) w lp (l.take (i + 1)) 0).length ≤ 500 := by
        have e : itemsW (rowsW m) w lp l 0 = itemsW (rowsW m) w lp (l.take (i + 1)) 0 ++ itemsW (rowsW m) w lp (l.drop (i + 1)) (0 + (l.take (i + 1)).length) := by rw [← items_append, List.take_append_drop]
        rw [e, List.length_append] at tot
        omega
      rw [cut] at few ⊢
      generalize l[i] = d at ed rv hs hx few
      rw [List.length_append, List.length_cons] at few
      have e0 : (0 : Int) + (i : Int) = (i : Int) := by omega
      refine ⟨_, rfl, _, rfl, by show 1 ≤ sizeLine; decide, fun t nt => ?_⟩
      rw [e0]
      have s2 := Same.new (o := .tup [V.int (i : Int)]) nt
      have ht : upd H1 t (.tup [V.int (i : Int)]) t = some (.tup (pathV [i])) := upd_same
      generalize upd H1 t (.tup [V.int (i : Int)]) = H2 at s2 ht ⊢
      refine path_go (s2 _ _ (s1 _ _ hp)) ht (by simp) (by show w.length + 1 ≤ 1000; omega) fun q H3 s3 hq => ?_
      have s13 := s1.trans (s2.trans s3)
      refine ⟨_, rfl, .inl ⟨rfl, _, SqL.of ((s2.trans s3) _ _ hL)⟩, _, rfl, _, rfl, _, rfl, pb, _, _, _, rfl, rfl, SqT.of (s13 _ _ hpb), atI_nat ev, by show 2 ≤ sizeLine; decide, fun R nR => ?_⟩
      have s4 := Same.new (o := .tup [.ref q, vi]) nR
      have hR : upd H3 R (.tup [.ref q, vi]) R = some (.tup [.ref q, vi]) := upd_same
      have s14 := s13.trans s4
      have s24 := s2.trans (s3.trans s4)
      have hq4 := s4 _ _ hq
      generalize upd H3 R (.tup [.ref q, vi]) = H4 at s4 hR s14 s24 hq4 ⊢
      have hL4 := s24 _ _ hL
      have rowN : RowA K H4 (.ref R) (w ++ [i], d, lp) := ⟨R, q, vi, rfl, hR, hq4, rv.keep s14⟩
      refine ⟨L, _, _, rfl, rfl, hL4, small1000 (by rw [Paired.length ra]; omega), ?_⟩
      have s5 : Same H (upd H4 L (.lst (xs ++ [.ref R]))) := fun b' o e => by
        rw [upd_ne (ne_of_none e nL)]
        exact s14 _ _ e
      have hL5 : upd H4 L (.lst (xs ++ [.ref R])) L = some (.lst (xs ++ [.ref R])) := upd_same
      have ra5 : RowsA K (upd H4 L (.lst (xs ++ [.ref R]))) (xs ++ [.ref R]) (itemsW (rowsW m) w lp (l.take i) 0 ++ [(w ++ [i], d, lp)]) := RowsA.updL hL4 ((RowsA.keep s24 ra).append (.cons rowN .nil))
      have hq5 : upd H4 L (.lst (xs ++ [.ref R])) q = some (.tup (pathV (w ++ [i]))) := by
        rw [upd_ne (fun z => by subst z; rw [hL4] at hq4; cases Option.some.inj hq4)]
        exact hq4
      generalize upd H4 L (.lst (xs ++ [.ref R])) = H5 at s5 hL5 ra5 hq5 ⊢
      refine ⟨_, rfl, _, rfl, pb, _, _, _, rfl, rfl, SqT.of (s5 _ _ hpb), atI_nat ev, vi, d, rfl, rv.keep s5, hs, fun PL H6 ys s6 nPL hPL ry => ?_⟩
      have ly := ry.len
      have l4 := (blocks_ok hs).2
      refine ⟨_, rfl, PL, ys, rfl, .inl (SqL.of hPL), _, rfl, by omega, by omega, for_range (lo := 0) (n := ys.length) (fun jj σ H' => ∃ (L' : Addr) (zs : List V) (x6 : Option V), σ = [some (.ref pb), some (.ref p), some (.ref L'), some (.int (i : Int)), some (.ref q), some (.ref PL), x6] ∧ Same H6 H' ∧ H L' = none ∧ H' L' = some (.lst zs) ∧
          RowsA K H' zs (itemsW (rowsW m) w lp (l.take i) 0 ++ ((w ++ [i], d, lp) :: blocksW (rowsW m) (w ++ [i]) (lp || decide (headB d = "repeat")) ((blocksB d).take jj) 0)))
        ⟨L, _, _, rfl, Same.refl _, nL, s6 _ _ hL5, RowsA.keep s6 ra5⟩ ?_ ?_⟩
      · rintro jj σ H7 hjj ⟨L', zs, x6, rfl, s7, nL', hL', ra7⟩
        have lj : jj < (blocksB d).length := by omega
        have ej : (blocksB d)[jj]? = some (blocksB d)[jj] := List.getElem?_eq_getElem lj
        have tkj : (blocksB d).take (jj + 1) = (blocksB d).take jj ++ [(blocksB d)[jj]] := by rw [List.take_add_one, ej]; rfl
        obtain ⟨vj, evj, rvj⟩ := ry.get ej
        have gx := hx _ (List.getElem_mem lj)
        have cutj : blocksW (rowsW m) (w ++ [i]) (lp || decide (headB d = "repeat")) ((blocksB d).take (jj + 1)) 0 = blocksW (rowsW m) (w ++ [i]) (lp || decide (headB d = "repeat")) ((blocksB d).take jj) 0 ++ rowsW m (blocksB d)[jj] (w ++ [i] ++ [jj]) (lp || decide (headB d = "repeat")) := by
          rw [tkj, blks_append, Nat.zero_add, List.length_take, Nat.min_eq_left (by omega)]
          congr 1
          show rowsW m _ _ _ ++ [] = _
          rw [List.append_nil]
        have fewj : (blocksW (rowsW m) (w ++ [i]) (lp || decide (headB d = "repeat")) ((blocksB d).take (jj + 1)) 0).length ≤ (blocksW (rowsW m) (w ++ [i]) (lp || decide (headB d = "repeat")) (blocksB d) 0).length := by
          have e : blocksW (rowsW m) (w ++ [i]) (lp || decide (headB d = "repeat")) (blocksB d) 0 = blocksW (rowsW m) (w ++ [i]) (lp || decide (headB d = "repeat")) ((blocksB d).take (jj + 1)) 0 ++ blocksW (rowsW m) (w ++ [i]) (lp || decide (headB d = "repeat")) ((blocksB d).drop (jj + 1)) (0 + ((blocksB d).take (jj + 1)).length) := by rw [← blks_append, List.take_append_drop]
          rw [e, List.length_append]
          omega
        rw [cutj] at fewj ⊢
        generalize (blocksB d)[jj] = x at rvj gx fewj
        rw [List.length_append, rows_len] at fewj
        have e0 : (0 : Int) + (jj : Int) = (jj : Int) := by omega
        refine ⟨_, rfl, _, rfl, _, rfl, PL, _, _, _, rfl, rfl, SqL.of (s7 _ _ hPL), (by rw [e0]; exact atI_nat evj), _, rfl, _, rfl, by show 1 ≤ sizeLine; decide, fun t2 nt2 => ?_⟩
        rw [e0]
        have s8 := Same.new (o := .tup [V.int (jj : Int)]) nt2
        have ht2 : upd H7 t2 (.tup [V.int (jj : Int)]) t2 = some (.tup (pathV [jj])) := upd_same
        generalize upd H7 t2 (.tup [V.int (jj : Int)]) = H8 at s8 ht2 ⊢
        refine path_go (s8 _ _ (s7 _ _ (s6 _ _ hq5))) ht2 (by simp) (by rw [List.length_append]; show w.length + 1 + 1 ≤ 1000; omega) fun q2 H9 s9 hq2 => ?_
        have s79 := s7.trans (s8.trans s9)
        refine ⟨vj, x, q2, _, (lp || decide (headB d = "repeat")), rfl, rvj.keep s79, gx, hq2, by simp; omega, by omega, fun L2 ws H10 s10 nL2 hL2 ra10 => ?_⟩
        have s710 := s8.trans (s9.trans s10)
        have hL10 := s710 _ _ hL'
        refine ⟨L', L2, _, _, rfl, rfl, hL10, hL2, small9 (by rw [Paired.length ra7, Paired.length ra10, rows_len, List.length_append, List.length_cons]; omega), fun L3 nL3 => ?_⟩
        have s11 := Same.new (o := .lst (zs ++ ws)) nL3
        refine ⟨L3, _, _, rfl, s7.trans (s710.trans s11), ?_, upd_same, ?_⟩
        · cases e : H L3 with
          | none => rfl
          | some o =>
            have z := (s7.trans s710) _ _ (s6 _ _ (s5 _ _ e))
            rw [nL3] at z
            cases z
        · have z := (RowsA.keep s710 ra7).append ra10
          rw [List.append_assoc] at z
          exact RowsA.keep s11 z
      · rintro σ H7 ⟨L', zs, x6, rfl, s7, nL', hL', ra7⟩
        rw [show (blocksB d).take ys.length = blocksB d from List.take_of_length_le (by omega)] at ra7
        exact ⟨L', zs, _, _, _, _, rfl, s5.trans (s6.trans s7), nL', hL', ra7⟩
    · rintro σ H1 ⟨L, xs, x3, x4, x5, x6, rfl, s1, nL, hL, ra⟩
      rw [List.take_of_length_le (by omega)] at ra
      exact ⟨_, rfl, k L xs H1 s1 nL hL ra⟩
theorem ok_listed {f fP : Addr} {fd fdP : FuncData} (F : Fun K "_law_listed" "_law_listed" lListed f fd) (T : TxtO mg)
    (GP : FnOk P w K mg base CX0 1 fP fdP ["_law_statement"] (spBlocks K)) (kP : PySem.W.keepIn K (.ref fP) = true) (bP : Binds K fdP ["_law_statement"] []) (mP : mg "_law_parts" = some (.ref fP))
    (mL : mg "_law_listed" = some (.ref f)) (bL : Binds K fd p2l []) : ∀ m, FnOk P w K mg base CX0 (m + 2) f fd p2l (spList K m)
  | 0 => list_step F T (by omega) GP kP bP mP mL bL never_ok
  | m + 1 => list_step F T (by omega) GP kP bP mP mL bL (ok_listed F T GP kP bP mP mL bL m)
end
end Oh
namespace Oh
open PySem PySem.Spec PyProof.Rows L2 PpSet
abbrev Asg : Type := List (List Nat × Nat)
abbrev kvA (a : Asg) : List (List L2.Key × V) := a.map fun x => (keyP x.1, V.int (x.2 : Int))
def chStep (r : WRow) (acc : List Asg) : List Asg := if brB r.2.1 = true then (acc.map fun a => (List.range (blocksB r.2.1).length).map fun n => a ++ [(r.1, n)]).flatten else acc
def chC : List WRow → List Asg → List Asg
  | [], acc => acc
  | r :: rs, acc => chC rs (chStep r acc)
theorem chC_append : ∀ (a b : List WRow) (acc : List Asg), chC (a ++ b) acc = chC b (chC a acc)
  | [], _, _ => rfl
  | r :: a, b, acc => chC_append a b (chStep r acc)
def mulR (rs : List WRow) : Nat := mulL (rs.map fun r => wP r.2.1)
theorem flat_len {α : Type} {n : Nat} : ∀ {l : List (List α)}, (∀ x ∈ l, x.length = n) → l.flatten.length = l.length * n
  | [], _ => by simp
  | x :: r, h => by
    rw [List.flatten_cons, List.length_append, h x List.mem_cons_self, flat_len fun y hy => h y (List.mem_cons_of_mem _ hy), List.length_cons, Nat.add_mul, Nat.one_mul]
    omega
theorem chStep_len (r : WRow) (acc : List Asg) : (chStep r acc).length = acc.length * wP r.2.1 := by
  unfold chStep wP
  split
  · rw [flat_len (n := (blocksB r.2.1).length) fun x hx => by
      obtain ⟨a, _, rfl⟩ := List.mem_map.mp hx
      simp, List.length_map]
  · rw [Nat.mul_one]
theorem chC_len : ∀ (rs : List WRow) (acc : List Asg), (chC rs acc).length = acc.length * mulR rs
  | [], acc => (Nat.mul_one _).symm
  | r :: rs, acc => by
    show (chC rs (chStep r acc)).length = acc.length * (wP r.2.1 * mulR rs)
    rw [chC_len rs, chStep_len, Nat.mul_assoc]
/-- an assignment to the ifs and open lines of these rows -/
abbrev AsgOf (rs : List WRow) (a : Asg) : Prop := Paired (fun (x : List Nat × Nat) (r : WRow) => x.1 = r.1 ∧ x.2 < (blocksB r.2.1).length) a (rs.filter fun r => brB r.2.1)
theorem paired_app {α β : Type} {P : α → β → Prop} : ∀ {a : List α} {b : List β} {c : List α} {d : List β}, Paired P a b → Paired P c d → Paired P (a ++ c) (b ++ d)
  | _, _, _, _, .nil, h => h
  | _, _, _, _, .cons h t, z => .cons h (paired_app t z)
theorem paired_split {α β : Type} {P : α → β → Prop} : ∀ {b d : List β} {l : List α}, Paired P l (b ++ d) → ∃ a c, l = a ++ c ∧ Paired P a b ∧ Paired P c d
  | [], d, l, h => ⟨[], l, rfl, .nil, h⟩
  | y :: b, d, _, .cons (a := x) h t => by
    obtain ⟨a, c, rfl, h1, h2⟩ := paired_split t
    exact ⟨x :: a, c, rfl, .cons h h1, h2⟩
theorem chC_mem : ∀ {rs : List WRow} {acc : List Asg} {a : Asg}, a ∈ chC rs acc ↔ ∃ a0 ∈ acc, ∃ a1, a = a0 ++ a1 ∧ AsgOf rs a1
  | [], acc, a => ⟨fun h => ⟨a, h, [], (List.append_nil _).symm, .nil⟩, fun ⟨a0, h, a1, e, p⟩ => by
    cases p
    rw [e, List.append_nil]
    exact h⟩
  | r :: rs, acc, a => by
    show a ∈ chC rs (chStep r acc) ↔ _
    rw [chC_mem]
    unfold chStep
    by_cases c : brB r.2.1 = true
    · rw [if_pos c]
      have ef : (r :: rs).filter (fun r => brB r.2.1) = r :: rs.filter fun r => brB r.2.1 := List.filter_cons_of_pos c
      constructor
      · rintro ⟨a0, h0, a1, rfl, p⟩
        obtain ⟨l, ml, h0⟩ := List.mem_flatten.mp h0
        obtain ⟨b, mb, rfl⟩ := List.mem_map.mp ml
        obtain ⟨n, mn, rfl⟩ := List.mem_map.mp h0
        refine ⟨b, mb, (r.1, n) :: a1, by simp, ?_⟩
        show Paired _ _ ((r :: rs).filter _)
        rw [ef]
        exact .cons ⟨rfl, List.mem_range.mp mn⟩ p
      · rintro ⟨a0, h0, a1, rfl, p⟩
        have p : Paired _ a1 ((r :: rs).filter _) := p
        rw [ef] at p
        cases p with
        | @cons x _ a2 _ h t =>
          obtain ⟨x1, x2⟩ := x
          obtain ⟨e1, e2⟩ := h
          have e1 : x1 = r.1 := e1
          subst e1
          refine ⟨a0 ++ [(r.1, x2)], List.mem_flatten.mpr ⟨_, List.mem_map_of_mem h0, List.mem_map.mpr ⟨x2, List.mem_range.mpr e2, rfl⟩⟩, a2, by simp, t⟩
    · rw [if_neg c]
      have ef : (r :: rs).filter (fun r => brB r.2.1) = rs.filter fun r => brB r.2.1 := List.filter_cons_of_neg c
      have ea : ∀ a1, AsgOf (r :: rs) a1 ↔ AsgOf rs a1 := fun a1 => by
        show Paired _ a1 ((r :: rs).filter _) ↔ _
        rw [ef]
      constructor
      · rintro ⟨a0, h0, a1, e, p⟩
        exact ⟨a0, h0, a1, e, (ea a1).mpr p⟩
      · rintro ⟨a0, h0, a1, e, p⟩
        exact ⟨a0, h0, a1, e, (ea a1).mp p⟩
theorem asg_keys : ∀ {rs : List WRow} {a : Asg}, Paired (fun (x : List Nat × Nat) (r : WRow) => x.1 = r.1 ∧ x.2 < (blocksB r.2.1).length) a rs → a.map (·.1) = rs.map (·.1)
  | _, _, .nil => rfl
  | _, _, .cons h t => by rw [List.map_cons, List.map_cons, asg_keys t, h.1]
/-! ### looked up -/
theorem val_kvA {a : Asg} (nd : (a.map (·.1)).Nodup) {p : List Nat} {n : Nat} (h : (p, n) ∈ a) : valV (kvA a) (keyP p) = some (.int (n : Int)) := by
  induction a with
  | nil => cases h
  | cons x r ih =>
    obtain ⟨n1, n2⟩ := List.nodup_cons.mp (show (x.1 :: r.map (·.1)).Nodup from nd)
    rcases List.mem_cons.mp h with rfl | h
    · exact valV_pos rfl
    · refine (valV_neg (fun z => ?_)).trans (ih n2 h)
      have := keyP_inj z
      exact n1 (List.mem_map.mpr ⟨(p, n), h, this.symm⟩)
theorem val_none {a : Asg} {p : List Nat} (h : p ∉ a.map (·.1)) : valV (kvA a) (keyP p) = none := by
  induction a with
  | nil => rfl
  | cons x r ih =>
    refine (valV_neg (fun z => ?_)).trans (ih fun m => h (List.mem_cons_of_mem _ m))
    exact h (by
      rw [← keyP_inj z]
      exact List.mem_cons_self)
def DictA (H : Hp) (x : V) (a : Asg) : Prop := ∃ D, x = .ref D ∧ H D = some (.dT (kvA a))
theorem dicts_keep {H H' : Hp} (s : Same H H') : ∀ {xs : List V} {as : List Asg}, Paired (DictA H) xs as → Paired (DictA H') xs as
  | _, _, .nil => .nil
  | _, _, .cons ⟨D, e, h⟩ t => .cons ⟨D, e, s _ _ h⟩ (dicts_keep s t)
theorem dicts_updL {H : Hp} {L : Addr} {zs ys : List V} (hL : H L = some (.lst zs)) : ∀ {xs : List V} {as : List Asg}, Paired (DictA H) xs as → Paired (DictA (upd H L (.lst ys))) xs as
  | _, _, .nil => .nil
  | _, _, .cons ⟨D, e, h⟩ t => .cons ⟨D, e, by rw [upd_ne (fun z => by subst z; rw [hL] at h; cases Option.some.inj h)]; exact h⟩ (dicts_updL hL t)
theorem dicts_at {H : Hp} : ∀ {xs : List V} {as : List Asg} {i : Nat} {a : Asg}, Paired (DictA H) xs as → as[i]? = some a → ∃ D, xs[i]? = some (.ref D) ∧ H D = some (.dT (kvA a))
  | _, _, _, _, .nil, h => by cases h
  | _, _, 0, _, .cons h _, e => by
    obtain ⟨D, rfl, h⟩ := h
    cases e
    exact ⟨D, rfl, h⟩
  | _, _, i + 1, _, .cons _ t, e => dicts_at (i := i) t e
theorem head_at {K : PySem.W.Frag} {H : Hp} {v : V} {d : DT} (r : Rp K H v d) (hs : stmtB d = true) : ∃ p xs, v = .ref p ∧ H p = some (.tup xs) ∧ atI xs (0 : Int) = some (.str (headB d)) := by
  obtain ⟨g, l, hk, hg, el⟩ := stmt_inv hs
  obtain ⟨p, xs, rfl, hp, ra⟩ := (el ▸ r : Rp K H v (.tup (.str (headB d) :: l))).tup_inv
  obtain ⟨v0, x0, r0⟩ := ra.get (i := 0) rfl
  cases r0
  exact ⟨p, xs, rfl, hp, at_of (j := 0) rfl x0⟩
theorem in_br {d : DT} : inV (V.str (headB d)) [.str "if", .str "open"] = brB d := by
  have z := inV_strs (headB d) ["if", "open"]
  rw [show [V.str "if", V.str "open"] = (["if", "open"] : List Str).map V.str from rfl, z]
  unfold brB
  congr 1
  simp
theorem upd_self {H : Hp} {p : Addr} {o : HO} (h : H p = some o) : upd H p o = H := by
  funext b
  by_cases e : b = p
  · rw [e, upd_same, h]
  · rw [upd_ne e]
/-- what stands before the number of a row's blocks is put behind each assignment -/
abbrev grow (r : WRow) (a : Asg) (n : Nat) : List Asg := (List.range n).map fun n => a ++ [(r.1, n)]
def spCho (K : PySem.W.Frag) : Sp := fun vs H Q _ => ∃ Rl xs rs, vs = [.ref Rl] ∧ H Rl = some (.lst xs) ∧ RowsA K H xs rs ∧ rs.length ≤ 500 ∧ (∀ r ∈ rs, stmtB r.2.1 = true) ∧ (rs.map (·.1)).Nodup ∧ (∀ i, mulR (rs.take i) ≤ 96) ∧
  ∀ L ys H', Same H H' → H' L = some (.lst ys) → Paired (DictA H') ys (chC rs [[]]) → Q (.ref L) H'
section
variable {P : Program} {w : World} {K : PySem.W.Frag} {mg : Str → Option Value} {base : Heap}
abbrev nCh : List Str := ["_law_rows", "_law_found", "_law_path", "_law_statement", "_law_longer", "_law_known", "_law_number", "_law_other", "_law_key"]
theorem scCho : FnScope nCh ["_law_rows"] (defScope lChoices) := ⟨rfl, rfl, rfl, by decide +kernel, rfl, by decide +kernel, by decide +kernel⟩
theorem ok_choices {f fP : Addr} {fd fdP : FuncData} (F : Fun K "_law_choices" "_law_choices" lChoices f fd) (T : TxtO mg)
    (GP : FnOk P w K mg base CX0 1 fP fdP ["_law_statement"] (spBlocks K)) (kP : PySem.W.keepIn K (.ref fP) = true) (bP : Binds K fdP ["_law_statement"] []) (mP : mg "_law_parts" = some (.ref fP)) :
    FnOk P w K mg base CX0 2 f fd ["_law_rows"] (spCho K) := by
  refine F.ok scCho (fun vs H Q E h => ?_) (fun cdv A outer s H vs Q E hr h => ?_)
  · obtain ⟨Rl, xs, rs, rfl, _⟩ := h
    rfl
  · obtain ⟨Rl, xs, rs, rfl, hRl, ra, few, hst, nd, hm, k⟩ := h
    have hr1 := hr
    have hu := hu_of hr
    refine ⟨_, (pss_cons (ps_set (i := 1) scCho.nd rfl (Or.inl rfl) (pe_lst (pa_cons pe_dnewT pa_nil)))
      (pss_cons (ps_for PassesOwn.never rfl (pi_list (pv 0)) (pg_tup rfl (pgs_cons (pg_name (i := 2) scCho.nd rfl (Or.inl rfl)) (pgs_cons (pg_name (i := 3) scCho.nd rfl (Or.inl rfl)) pgs_nil)))
        (pss_one (ps_if (pt_cmpR op_in_seq (pe_ix ix_tup (pv 3) pe_int (fun _ _ => rfl)) (pe_tup (pa_cons pe_str (pa_cons pe_str pa_nil))) (by rfl))
          (pss_cons (ps_set (i := 4) scCho.nd rfl (Or.inl rfl) (pe_lst pa_nil))
          (pss_cons (ps_for PassesOwn.never rfl (pi_list (pv 1)) (pg_name (i := 5) scCho.nd rfl (Or.inl rfl))
            (pss_one (ps_for PassesOwn.never rfl (pi_range1 (by rfl) T.range (pa_cons (pe_callB call_len_seq (by rfl) T.len boot_len (pa_cons (pe_call GP hr1 (by rfl) mP kP bP .nil pass0 (pa_cons (pv 3) pa_nil)) pa_nil)) pa_nil)) (pg_name (i := 6) scCho.nd rfl (Or.inl rfl))
              (pss_cons (ps_set (i := 7) scCho.nd rfl (Or.inl rfl) pe_dnewT)
              (pss_cons (ps_lock (ps_for PassesOwn.never rfl (pi_keys (pv 5)) (pg_name (i := 8) scCho.nd rfl (Or.inl rfl))
                (pss_one (ps_dput hu (pv 7) (pv 8) (pe_dget hu (pv 5) (pv 8) (fun _ _ => rfl)) rfl))))
              (pss_cons (ps_dput hu (pv 7) (pv 2) (pv 6) rfl)
              (pss_one (ps_expr (pe_bm PySem.F.plainAttrs_list PySem.F.slot_list_append PySem.F.type_list_append mt_append (pv 4) (pa_cons (pv 7) pa_nil))))))))))
          (pss_one (ps_set (i := 1) scCho.nd rfl (Or.inl rfl) (pv 4))))) pss_nil)))
      (pss_one (ps_ret (pv 1))))), ?_⟩
    refine fun D0 nD0 => ⟨by show 1 ≤ sizeLine; decide, fun L0 nL0 => ?_⟩
    have s0 : Same H (upd (upd H D0 (.dT [])) L0 (.lst [.ref D0])) := (Same.new nD0).trans (Same.new nL0)
    have hD0 : upd (upd H D0 (.dT [])) L0 (.lst [.ref D0]) D0 = some (.dT (kvA [])) := (Same.new nL0) _ _ upd_same
    have hL0 : upd (upd H D0 (.dT [])) L0 (.lst [.ref D0]) L0 = some (.lst [.ref D0]) := upd_same
    generalize upd (upd H D0 (.dT [])) L0 (.lst [.ref D0]) = H0 at s0 hD0 hL0 ⊢
    refine ⟨_, rfl, Rl, rfl, ⟨_, SqL.of (s0 _ _ hRl)⟩, for_it (walk_list (K := K) (a := Rl) (xs := xs)) (fun i σ H' => ∃ (L : Addr) (ys : List V) (x2 x3 x4 x5 x6 x7 x8 : Option V), σ = [some (.ref Rl), some (.ref L), x2, x3, x4, x5, x6, x7, x8] ∧ Same H H' ∧ H' L = some (.lst ys) ∧ Paired (DictA H') ys (chC (rs.take i) [[]]))
      ⟨L0, [.ref D0], _, _, _, _, _, _, _, rfl, s0, hL0, .cons ⟨D0, rfl, hD0⟩ .nil⟩ (fun i σ H' _ ⟨_, _, _, _, _, _, _, _, _, _, s', _⟩ => SqL.of (s' _ _ hRl)) ?_ ?_⟩
    · rintro i x σ H1 H2 hi ⟨L, ys, x2, x3, x4, x5, x6, x7, x8, rfl, s1, hL, hds⟩ ⟨rfl, ex⟩
      have lra := Paired.length ra
      have li : i < rs.length := by omega
      have er : rs[i]? = some rs[i] := List.getElem?_eq_getElem li
      have tk : chC (rs.take (i + 1)) [[]] = chStep rs[i] (chC (rs.take i) [[]]) := by
        rw [show rs.take (i + 1) = rs.take i ++ [rs[i]] by rw [List.take_add_one, er]; rfl, chC_append]
        rfl
      have fresh : rs[i].1 ∉ (rs.take i).map (·.1) := fun m => by
        have e : rs.map (·.1) = (rs.take i).map (·.1) ++ rs[i].1 :: (rs.drop (i + 1)).map (·.1) := by
          rw [← List.map_cons, ← List.map_append, ← List.drop_eq_getElem_cons li, List.take_append_drop]
        rw [e, List.nodup_append] at nd
        exact nd.2.2 _ m _ List.mem_cons_self rfl
      have ndk : ((rs.take i).map (·.1)).Nodup := by
        have e : rs.map (·.1) = (rs.take i).map (·.1) ++ (rs.drop i).map (·.1) := by rw [← List.map_append, List.take_append_drop]
        rw [e, List.nodup_append] at nd
        exact nd.1
      obtain ⟨x', ex', R, T, vS, rfl, hR, hT, rS⟩ := (RowsA.keep s1 ra).at_ er
      obtain rfl := Option.some.inj (ex'.symm.trans ex)
      have hs := hst _ (List.getElem_mem li)
      rw [tk]
      generalize rs[i] = r at hT rS hs fresh
      have accl : (chC (rs.take i) [[]]).length ≤ 96 := by
        rw [chC_len]
        have := hm i
        simpa using this
      have keys : ∀ a ∈ chC (rs.take i) [[]], (a.map (·.1)).Nodup ∧ r.1 ∉ a.map (·.1) ∧ a.length ≤ 500 := fun a ha => by
        obtain ⟨a0, h0, a1, e, p⟩ := chC_mem.mp ha
        rw [List.mem_singleton.mp h0, List.nil_append] at e
        subst e
        have z := asg_keys p
        have sub : ((rs.take i).filter fun r => brB r.2.1).Sublist (rs.take i) := List.filter_sublist
        refine ⟨by rw [z]; exact ndk.sublist (sub.map _), fun m => fresh ?_, ?_⟩
        · rw [z] at m
          exact (sub.map _).subset m
        · have := sub.length_le
          rw [List.length_take] at this
          have e3 := Paired.length p
          omega
      generalize chC (rs.take i) [[]] = acc at hds accl keys
      obtain ⟨pS, xS, rfl, hpS, hat⟩ := head_at rS hs
      refine ⟨R, _, rfl, SqT.of hR, rfl, _, _, rfl, _, _, rfl, rfl, ?_⟩
      refine ⟨_, rfl, pS, _, _, _, rfl, rfl, SqT.of hpS, hat, by show 2 ≤ sizeLine; decide, fun t nt => ⟨t, _, rfl, .inr (SqT.of upd_same), rfl, by decide +kernel, _, rfl, ?_⟩⟩
      have st := Same.new (o := .tup [V.str "if", V.str "open"]) nt
      generalize upd H2 t (.tup [V.str "if", V.str "open"]) = H3 at st ⊢
      have hT3 := st _ _ hT
      have rS3 := rS.keep st
      have hL3 := st _ _ hL
      have hds3 := dicts_keep st hds
      have s3 := s1.trans st
      show if inV (V.str (headB r.2.1)) [.str "if", .str "open"] = true then _ else _
      rw [in_br]
      cases c : brB r.2.1 with
      | false =>
        refine iteF ⟨L, ys, _, _, _, _, _, _, _, rfl, s3, hL3, ?_⟩
        unfold chStep
        rw [c, if_neg (by decide)]
        exact hds3
      | true =>
        have l4 := (blocks_ok hs).2
        refine iteT ⟨by show 0 ≤ sizeLine; decide, fun LL nLL => ?_⟩
        have sL := Same.new (o := .lst []) nLL
        have hLL0 : upd H3 LL (.lst []) LL = some (.lst []) := upd_same
        generalize upd H3 LL (.lst []) = H4 at sL hLL0 ⊢
        refine ⟨_, rfl, L, rfl, ⟨_, SqL.of (sL _ _ hL3)⟩, for_it (walk_list (K := K) (a := L) (xs := ys)) (fun j σ H' => ∃ (zs : List V) (x5 x6 x7 x8 : Option V), σ = [some (.ref Rl), some (.ref L), some (.ref T), some (.ref pS), some (.ref LL), x5, x6, x7, x8] ∧ Same H3 H' ∧ H' LL = some (.lst zs) ∧ Paired (DictA H') zs (((acc.take j).map fun a => grow r a (blocksB r.2.1).length).flatten))
          ⟨[], _, _, _, _, rfl, sL, hLL0, .nil⟩ (fun j σ H' _ ⟨_, _, _, _, _, _, s', _⟩ => SqL.of (s' _ _ hL3)) ?_ ?_⟩
        · rintro j x σ H5 H6 hj ⟨zs, x5, x6, x7, x8, rfl, s5, hLL, hzs⟩ ⟨rfl, ex⟩
          have lds := Paired.length hds
          have lj : j < acc.length := by omega
          have ej : acc[j]? = some acc[j] := List.getElem?_eq_getElem lj
          have tkj : ((acc.take (j + 1)).map fun a => grow r a (blocksB r.2.1).length).flatten = ((acc.take j).map fun a => grow r a (blocksB r.2.1).length).flatten ++ grow r acc[j] (blocksB r.2.1).length := by
            rw [List.take_add_one, ej, List.map_append, List.flatten_append]
            show _ ++ (grow r acc[j] (blocksB r.2.1).length ++ []) = _
            rw [List.append_nil]
          obtain ⟨kn, nn0, kl⟩ := keys _ (List.getElem_mem lj)
          obtain ⟨D, eD, hD⟩ := dicts_at (dicts_keep s5 hds3) ej
          obtain rfl := Option.some.inj (eD.symm.trans ex)
          rw [tkj]
          generalize acc[j] = a at hD kn nn0 kl
          have dl : (((acc.take j).map fun a => grow r a (blocksB r.2.1).length).flatten).length ≤ 384 := by
            rw [flat_len (n := (blocksB r.2.1).length) fun x hx => by
              obtain ⟨a, _, rfl⟩ := List.mem_map.mp hx
              simp, List.length_map, List.length_take]
            exact Nat.mul_le_mul (show min j acc.length ≤ 96 by omega) l4
          generalize ((acc.take j).map fun a => grow r a (blocksB r.2.1).length).flatten = done at hzs dl
          refine ⟨_, rfl, .ref pS, r.2.1, rfl, rS3.keep s5, hs, fun PL H7 ws s7 nPL hPL ry => ?_⟩
          have lw := ry.len
          refine ⟨PL, ws, rfl, .inl (SqL.of hPL), _, rfl, by omega, by omega, for_range (lo := 0) (n := ws.length) (fun m σ H' => ∃ (zs : List V) (x6 x7 x8 : Option V), σ = [some (.ref Rl), some (.ref L), some (.ref T), some (.ref pS), some (.ref LL), some (.ref D), x6, x7, x8] ∧ Same H3 H' ∧ H' D = some (.dT (kvA a)) ∧ H' LL = some (.lst zs) ∧ Paired (DictA H') zs (done ++ grow r a m))
            ⟨zs, _, _, _, rfl, s5.trans s7, s7 _ _ hD, s7 _ _ hLL, by rw [show grow r a 0 = [] from rfl, List.append_nil]; exact dicts_keep s7 hzs⟩ ?_ ?_⟩
          · rintro m σ H8 hm' ⟨zs, x6, x7, x8, rfl, s8, hD8, hLL8, hzs8⟩
            have e0 : (0 : Int) + (m : Int) = (m : Int) := by omega
            have gm : grow r a (m + 1) = grow r a m ++ [a ++ [(r.1, m)]] := by
              unfold grow
              rw [List.range_succ, List.map_append]
              rfl
            rw [e0]
            intro O nO
            have nDO : D ≠ O := ne_of_none hD8 nO
            have nLO : LL ≠ O := ne_of_none hLL8 nO
            refine ⟨D, .dT (kvA a), by rw [upd_ne nDO]; exact hD8, trivial, fun od => ?_⟩
            refine ⟨_, rfl, D, od, rfl, .inr ⟨kvA a, upd_same, for_it (walk_keysT (kvs := kvA a)) (fun t σ H' => ∃ x8 : Option V, σ = [some (.ref Rl), some (.ref L), some (.ref T), some (.ref pS), some (.ref LL), some (.ref D), some (.int (m : Int)), some (.ref O), x8] ∧ H' = upd (upd (upd H8 O (.dT [])) D (.frz od (.dT (kvA a)))) O (.dT (kvA (a.take t))))
              ⟨_, rfl, (upd_self (by rw [upd_ne nDO.symm, upd_same]; rfl)).symm⟩ (fun t σ H' _ ⟨_, _, e⟩ => by rw [e, upd_ne nDO, upd_same]) ?_ ?_⟩⟩
            · rintro t x σ Ha Hb ht ⟨x8, rfl, rfl⟩ ⟨rfl, kk, vv, q, ek, rfl, hq⟩
              have lt : t < a.length := by rw [List.length_map] at ht; exact ht
              have et : a[t]? = some a[t] := List.getElem?_eq_getElem lt
              have ekk : (kvA a)[t]? = some (keyP a[t].1, V.int (a[t].2 : Int)) := by rw [List.getElem?_map, et]; rfl
              obtain ⟨rfl, rfl⟩ := Prod.mk.inj (Option.some.inj (ek.symm.trans ekk))
              have vl := val_kvA kn (p := a[t].1) (n := a[t].2) (List.getElem_mem lt)
              have frs : a[t].1 ∉ (a.take t).map (·.1) := fun z => by
                have e : a.map (·.1) = (a.take t).map (·.1) ++ a[t].1 :: (a.drop (t + 1)).map (·.1) := by
                  rw [← List.map_cons, ← List.map_append, ← List.drop_eq_getElem_cons lt, List.take_append_drop]
                rw [e, List.nodup_append] at kn
                exact kn.2.2 _ z _ List.mem_cons_self rfl
              refine ⟨_, rfl, _, rfl, D, _, rfl, .inr ⟨kvA a, keyP a[t].1, q, .inr ⟨od, by rw [upd_ne nDO, upd_same]⟩, rfl, hq, vl.symm⟩, _, rfl, _, rfl, O, _, rfl, DPut.t upd_same hq (small1000 (by rw [List.length_map, List.length_take]; omega)), ?_⟩
              refine ⟨_, rfl, ?_⟩
              rw [upd_upd, putK_new _ (val_none frs)]
              congr 2
              show (kvA (a.take t)) ++ [(keyP a[t].1, V.int (a[t].2 : Int))] = kvA (a.take (t + 1))
              rw [List.take_add_one, et, kvA, kvA, List.map_append]
              rfl
            · rintro σ Ha ⟨x8, rfl, rfl⟩
              rw [List.take_of_length_le (by rw [List.length_map]; exact Nat.le_refl _)]
              refine ⟨by rw [upd_ne nDO, upd_same], ?_⟩
              have eH : upd (upd (upd (upd H8 O (.dT [])) D (.frz od (.dT (kvA a)))) O (.dT (kvA a))) D (.dT (kvA a)) = upd H8 O (.dT (kvA a)) := by
                funext b
                by_cases e1 : b = D
                · rw [e1, upd_same, upd_ne nDO, hD8]
                · rw [upd_ne e1]
                  by_cases e2 : b = O
                  · rw [e2, upd_same, upd_same]
                  · rw [upd_ne e2, upd_ne e1, upd_ne e2, upd_ne e2]
              rw [eH]
              have hT8 : upd H8 O (.dT (kvA a)) T = some (.tup ((keyP r.1).map kV)) := by
                rw [pathV_key, upd_ne (ne_of_none (s8 _ _ hT3) nO)]
                exact s8 _ _ hT3
              refine ⟨_, rfl, _, rfl, _, rfl, O, _, rfl, DPut.t upd_same hT8 (small1000 (by rw [List.length_map]; omega)), ?_⟩
              rw [upd_upd, putK_new _ (val_none nn0)]
              have ek : kvA a ++ [(keyP r.1, V.int (m : Int))] = kvA (a ++ [(r.1, m)]) := by rw [kvA, kvA, List.map_append]; rfl
              rw [ek]
              have s9 := Same.new (o := .dT (kvA (a ++ [(r.1, m)]))) nO
              have hO : upd H8 O (.dT (kvA (a ++ [(r.1, m)]))) O = some (.dT (kvA (a ++ [(r.1, m)]))) := upd_same
              generalize upd H8 O (.dT (kvA (a ++ [(r.1, m)]))) = H9 at s9 hO ⊢
              have hLL9 := s9 _ _ hLL8
              have lz := Paired.length hzs8
              refine ⟨_, rfl, .inl ⟨rfl, _, SqL.of hLL9⟩, _, rfl, LL, _, _, rfl, rfl, hLL9, small1000 (by rw [lz, List.length_append, List.length_map, List.length_range]; omega), ?_⟩
              refine ⟨_, _, _, _, rfl, fun b o e => ?_, ?_, upd_same, ?_⟩
              · by_cases z : b = LL
                · subst z
                  rw [nLL] at e
                  cases e
                · rw [upd_ne z]
                  exact (s8.trans s9) _ _ e
              · rw [upd_ne (fun z => by subst z; rw [hLL8] at hD8; cases Option.some.inj hD8)]
                exact s9 _ _ hD8
              · rw [gm, ← List.append_assoc]
                exact dicts_updL hLL9 (paired_app (dicts_keep s9 hzs8) (.cons ⟨O, rfl, hO⟩ .nil))
          · rintro σ H8 ⟨zs, x6, x7, x8, rfl, s8, hD8, hLL8, hzs8⟩
            rw [lw] at hzs8
            exact ⟨zs, _, _, _, _, rfl, s8, hLL8, hzs8⟩
        · rintro σ H5 ⟨zs, x5, x6, x7, x8, rfl, s5, hLL, hzs⟩
          have lds := Paired.length hds
          rw [List.take_of_length_le (by omega)] at hzs
          refine ⟨_, rfl, LL, zs, _, _, _, _, _, _, _, rfl, s3.trans s5, hLL, ?_⟩
          unfold chStep
          rw [c, if_pos rfl]
          exact hzs
    · rintro σ H1 ⟨L, ys, x2, x3, x4, x5, x6, x7, x8, rfl, s1, hL, hds⟩
      have lra := Paired.length ra
      rw [List.take_of_length_le (by omega)] at hds
      exact ⟨_, rfl, k L ys H1 s1 hL hds⟩
end
end Oh
namespace Oh
open PySem PySem.Spec PyProof.Rows L2 PpSet
/-! ### the law's walk, a step at a time -/
inductive Aft (B : DT) : List Nat → List Nat → Prop
  | next {pre : List Nat} {i : Nat} : (atW B (pre ++ [i + 1])).isSome = true → Aft B (pre ++ [i]) (pre ++ [i + 1])
  | top {i : Nat} : Aft B [i] [i + 1]
  | rep {cp : List Nat} {j i : Nat} {d : DT} : atW B (cp ++ [j] ++ [i + 1]) = none → atW B cp = some d → headB d = "repeat" → Aft B (cp ++ [j] ++ [i]) cp
  | up {cp r : List Nat} {j i : Nat} {d : DT} : atW B (cp ++ [j] ++ [i + 1]) = none → atW B cp = some d → headB d ≠ "repeat" → Aft B cp r → Aft B (cp ++ [j] ++ [i]) r
inductive Encl (B : DT) : List Nat → List Nat → Prop
  | here {cp : List Nat} {j i : Nat} {d : DT} : atW B cp = some d → headB d = "repeat" → Encl B (cp ++ [j] ++ [i]) cp
  | up {cp e : List Nat} {j i : Nat} {d : DT} : atW B cp = some d → headB d ≠ "repeat" → Encl B cp e → Encl B (cp ++ [j] ++ [i]) e
inductive Next (B : DT) (c : List Nat → Nat) : List Nat → List Nat → Prop
  | set {q r : List Nat} {d : DT} : atW B q = some d → headB d = "set" → Aft B q r → Next B c q r
  | leave {q e r : List Nat} {d : DT} : atW B q = some d → headB d = "leave" → Encl B q e → Aft B e r → Next B c q r
  | inn {q : List Nat} {d : DT} {j : Nat} : atW B q = some d → headB d ≠ "set" → headB d ≠ "leave" → j = (if headB d = "repeat" then 0 else c q) → (atW B (q ++ [j] ++ [0])).isSome = true → Next B c q (q ++ [j] ++ [0])
  | loop {q : List Nat} {d : DT} : atW B q = some d → headB d = "repeat" → atW B (q ++ [0] ++ [0]) = none → Next B c q q
  | past {q r : List Nat} {d : DT} : atW B q = some d → headB d ≠ "set" → headB d ≠ "leave" → headB d ≠ "repeat" → atW B (q ++ [c q] ++ [0]) = none → Aft B q r → Next B c q r
def dealS : List Str := ["tell", "hear", "wait", "home", "fail"]
inductive Pas (B : DT) (c : List Nat → Nat) (R : List Nat) : Nat → List Nat → Bool → Prop
  | zero {p : List Nat} : Pas B c R 0 p false
  | hit {f : Nat} : Pas B c R (f + 1) R true
  | out {f : Nat} {p : List Nat} : p ≠ R → (p.take R.length ≠ R ∨ atW B p = none) → Pas B c R (f + 1) p false
  | deal {f : Nat} {p : List Nat} {d : DT} : p ≠ R → p.take R.length = R → atW B p = some d → headB d ∈ dealS → Pas B c R (f + 1) p false
  | step {f : Nat} {p p' : List Nat} {d : DT} {b : Bool} : p ≠ R → p.take R.length = R → atW B p = some d → headB d ∉ dealS → Next B c p p' → Pas B c R f p' b → Pas B c R (f + 1) p b
structure OkP (B : DT) (R p : List Nat) : Prop where
  ne : p ≠ R
  tk : p.take R.length = R
  nd : ∃ d, atW B p = some d ∧ headB d ∉ dealS
inductive Steps (B : DT) (c : List Nat → Nat) (R : List Nat) : Nat → List Nat → List Nat → Prop
  | refl {p : List Nat} : Steps B c R 0 p p
  | cons {k : Nat} {p p' r : List Nat} : OkP B R p → Next B c p p' → Steps B c R k p' r → Steps B c R (k + 1) p r
theorem Steps.trans {B : DT} {c : List Nat → Nat} {R : List Nat} {k l : Nat} {p q r : List Nat} (h : Steps B c R k p q) (g : Steps B c R l q r) : Steps B c R (k + l) p r := by
  induction h with
  | refl => rw [Nat.zero_add]; exact g
  | cons o n _ ih =>
    rw [show ∀ k l : Nat, k + 1 + l = k + l + 1 from fun k l => by omega]
    exact .cons o n (ih g)
theorem Steps.pas {B : DT} {c : List Nat → Nat} {R : List Nat} {k f : Nat} {p q : List Nat} {b : Bool} (h : Steps B c R k p q) (g : Pas B c R f q b) : Pas B c R (f + k) p b := by
  induction h with
  | refl => exact g
  | cons o n _ ih =>
    obtain ⟨d, e, nd⟩ := o.nd
    exact .step o.ne o.tk e nd n (ih g)
theorem Steps.short {B : DT} {c : List Nat → Nat} {R : List Nat} {k : Nat} {p q : List Nat} (h : Steps B c R k p q) : ∀ f, f ≤ k → Pas B c R f p false := by
  induction h with
  | refl => intro f hf; rw [show f = 0 by omega]; exact .zero
  | cons o n _ ih =>
    intro f hf
    match f, hf with
    | 0, _ => exact .zero
    | f + 1, hf =>
      obtain ⟨d, e, nd⟩ := o.nd
      exact .step o.ne o.tk e nd n (ih f (by omega))
theorem Steps.no {B : DT} {c : List Nat → Nat} {R : List Nat} {k : Nat} {p q : List Nat} (h : Steps B c R k p q) (g : ∀ f, Pas B c R f q false) (f : Nat) : Pas B c R f p false := by
  by_cases l : f ≤ k
  · exact h.short f l
  · have z := h.pas (g (f - k))
    rw [show f - k + k = f by omega] at z
    exact z
theorem Steps.loop {B : DT} {c : List Nat → Nat} {R : List Nat} {k : Nat} {q : List Nat} (h : Steps B c R (k + 1) q q) : ∀ f, Pas B c R f q false := by
  intro f
  induction f using Nat.strongRecOn with
  | ind f ih =>
    by_cases l : f ≤ k + 1
    · exact h.short f l
    · have z := h.pas (ih (f - (k + 1)) (by omega))
      rw [show f - (k + 1) + (k + 1) = f by omega] at z
      exact z
def stOf (pre Fp : List Nat) : List DT → Nat → List Nat
  | [], _ => Fp
  | _ :: _, i => pre ++ [i]
/-- what the walk does within a block, by the block's outcome -/
structure Goes (B : DT) (c : List Nat → Nat) (R : List Nat) (o : Out) (n : Nat) (st Fp Lp : List Nat) : Prop where
  fin : o = .fin → ∃ k, k ≤ n ∧ Steps B c R k st Fp
  lv : o = .lv → ∃ k, k ≤ n ∧ Steps B c R k st Lp
  no : o = .no → ∀ f, Pas B c R f st false
/-- where a block stands -/
structure At (B : DT) (c : List Nat → Nat) (R : List Nat) (b : DT) (pre : List Nat) : Prop where
  hat : ∀ v, v ≠ [] → atW B (pre ++ v) = atW b v
  reg : ∃ x, x ≠ [] ∧ pre = R ++ x
  val : ∀ v d, atW b v = some d → brB d = true → c (pre ++ v) < (blocksB d).length
theorem At.inn {B : DT} {c : List Nat → Nat} {R pre : List Nat} {b d x : DT} {k j : Nat} (h : At B c R b pre) (hk : (listB b)[k]? = some d) (hs : stmtB d = true) (hx : (blocksB d)[j]? = some x) : At B c R x (pre ++ [k] ++ [j]) := by
  refine ⟨fun v ne => ?_, ?_, fun v e he hbr => ?_⟩
  · rw [show pre ++ [k] ++ [j] ++ v = pre ++ k :: j :: v by simp, h.hat _ (by simp), at_cons hk hs hx]
  · obtain ⟨y, ny, rfl⟩ := h.reg
    exact ⟨y ++ [k] ++ [j], by simp, by simp⟩
  · rw [show pre ++ [k] ++ [j] ++ v = pre ++ k :: j :: v by simp]
    exact h.val _ e ((at_cons hk hs hx).trans he) hbr
theorem At.ne {B : DT} {c : List Nat → Nat} {R pre : List Nat} {b : DT} (h : At B c R b pre) (i : Nat) : pre ++ [i] ≠ R ∧ (pre ++ [i]).take R.length = R := by
  obtain ⟨x, nx, rfl⟩ := h.reg
  refine ⟨fun z => ?_, by rw [List.append_assoc, List.take_left']; rfl⟩
  have := congrArg List.length z
  rw [List.length_append, List.length_append] at this
  simp at this
  omega
abbrev WalkOk (B : DT) (c : List Nat → Nat) (R : List Nat) (m : Nat) : Prop := ∀ (b : DT) (pre Fp Lp : List Nat), goodR m b = true → At B c R b pre → (∀ i, (atW B (pre ++ [i])).isSome = true → atW B (pre ++ [i + 1]) = none → Aft B (pre ++ [i]) Fp) →
  (∀ i, ∃ e, Encl B (pre ++ [i]) e ∧ Aft B e Lp) → Goes B c R (runB c m b pre) (cntW m b) (stOf pre Fp (listB b) 0) Fp Lp
theorem head_ten {d : DT} (hs : stmtB d = true) (h1 : headB d ≠ "set") (h2 : headB d ≠ "leave") (h3 : headB d ≠ "repeat") (h4 : ¬ (headB d = "if" ∨ headB d = "open")) : headB d ∈ dealS := by
  obtain ⟨g, _, hk, _⟩ := stmt_inv hs
  have h5 : headB d ≠ "if" := fun z => h4 (.inl z)
  have h6 : headB d ≠ "open" := fun z => h4 (.inr z)
  by_cases c1 : headB d = "tell"
  · rw [c1]; decide +kernel
  by_cases c2 : headB d = "hear"
  · rw [c2]; decide +kernel
  by_cases c3 : headB d = "wait"
  · rw [c3]; decide +kernel
  by_cases c4 : headB d = "home"
  · rw [c4]; decide +kernel
  by_cases c5 : headB d = "fail"
  · rw [c5]; decide +kernel
  exfalso
  unfold kindB at hk
  rw [if_neg (fun z => z.elim h1 c1), if_neg c2, if_neg c3, if_neg h6, if_neg h5, if_neg h3, if_neg (fun z => z.elim h2 fun z => z.elim c4 c5)] at hk
  cases hk
theorem not_deal {d : DT} {h : Str} (e : headB d = h) (n : h ∉ dealS) : headB d ∉ dealS := e ▸ n
theorem first_at {x : DT} : (atW x [0]).isSome = true ↔ listB x ≠ [] := by
  show ((listB x)[0]?).isSome = true ↔ _
  cases listB x <;> simp
theorem st_first {pre Fp : List Nat} {l : List DT} (h : l ≠ []) : stOf pre Fp l 0 = pre ++ [0] := by
  cases l with
  | nil => exact absurd rfl h
  | cons => rfl
theorem sum_get {l : List Nat} {j x : Nat} (h : l[j]? = some x) : x ≤ l.sum := by
  induction l generalizing j with
  | nil => cases h
  | cons a r ih =>
    rw [List.sum_cons]
    cases j with
    | zero =>
      obtain rfl := Option.some.inj (show some a = some x from h)
      omega
    | succ j =>
      have := ih (j := j) (by simpa using h)
      omega
theorem walk_item {B : DT} {c : List Nat → Nat} {R : List Nat} {m : Nat} (rec : WalkOk B c R m) {b d : DT} {pre S Lp : List Nat} {i : Nat} (A : At B c R b pre) (hi : (listB b)[i]? = some d) (hs : stmtB d = true) (hb : ∀ x ∈ blocksB d, goodR m x = true)
    (hS : Aft B (pre ++ [i]) S) (hL : ∃ e, Encl B (pre ++ [i]) e ∧ Aft B e Lp) : Goes B c R (runI c (runB c m) (pre ++ [i]) d) (wtW (cntW m) d) (pre ++ [i]) S Lp := by
  have hd : atW B (pre ++ [i]) = some d := (A.hat [i] (by simp)).trans hi
  obtain ⟨n1, n2⟩ := A.ne i
  have ok : headB d ∉ dealS → OkP B R (pre ++ [i]) := fun nd => ⟨n1, n2, d, hd, nd⟩
  have wt : wtW (cntW m) d = 1 + ((blocksB d).map (cntW m)).sum := by unfold wtW; rw [if_pos hs]
  unfold runI
  by_cases c1 : headB d = "set"
  · rw [if_pos c1]
    exact ⟨fun _ => ⟨1, by omega, .cons (ok (not_deal c1 (by decide +kernel))) (.set hd c1 hS) .refl⟩, (fun z => by cases z), fun z => by cases z⟩
  rw [if_neg c1]
  by_cases c2 : headB d = "leave"
  · rw [if_pos c2]
    obtain ⟨e, h1, h2⟩ := hL
    exact ⟨(fun z => by cases z), (fun _ => ⟨1, by omega, .cons (ok (not_deal c2 (by decide +kernel))) (.leave hd c2 h1 h2) .refl⟩), fun z => by cases z⟩
  rw [if_neg c2]
  by_cases c3 : headB d = "repeat"
  · rw [if_pos c3]
    have o := ok (not_deal c3 (by decide +kernel))
    have hx : (blocksB d)[0]? = some (argB d 1) := by rw [blocks_head c3]; rfl
    have A1 := A.inn hi hs hx
    have G := rec (argB d 1) (pre ++ [i] ++ [0]) (pre ++ [i]) S (hb _ (List.mem_of_getElem? hx)) A1 (fun k _ z => .rep z hd c3) (fun k => ⟨_, .here hd c3, hS⟩)
    have w1 : cntW m (argB d 1) ≤ ((blocksB d).map (cntW m)).sum := by rw [blocks_head c3]; simp
    have f0 : (atW B (pre ++ [i] ++ [0] ++ [0])).isSome = true ↔ listB (argB d 1) ≠ [] := by
      rw [A1.hat [0] (by simp)]
      exact first_at
    -- the first step
    have go : ∃ s, Steps B c R 1 (pre ++ [i]) s ∧ (listB (argB d 1) ≠ [] → s = stOf (pre ++ [i] ++ [0]) (pre ++ [i]) (listB (argB d 1)) 0) ∧ (listB (argB d 1) = [] → s = pre ++ [i]) := by
      by_cases e : listB (argB d 1) = []
      · refine ⟨_, .cons o (.loop hd c3 ?_) .refl, fun z => absurd e z, fun _ => rfl⟩
        cases z : atW B (pre ++ [i] ++ [0] ++ [0]) with
        | none => rfl
        | some _ => exact absurd e (f0.mp (by rw [z]; rfl))
      · exact ⟨_, .cons o (.inn hd c1 c2 (j := 0) (by rw [if_pos c3]) (f0.mpr e)) .refl, fun _ => (st_first e).symm, fun z => absurd z e⟩
    obtain ⟨s, g1, g2, g3⟩ := go
    by_cases e : listB (argB d 1) = []
    · have ef : runB c m (argB d 1) (pre ++ [i] ++ [0]) = .fin := by
        cases m with
        | zero => exact absurd (hb _ (List.mem_of_getElem? hx)) (by intro z; cases z)
        | succ m =>
          show runL _ _ (listB (argB d 1)) 0 = .fin
          rw [e]
          rfl
      rw [ef]
      obtain rfl := g3 e
      exact ⟨(fun z => by cases z), (fun z => by cases z), fun _ => Steps.loop (k := 0) g1⟩
    · obtain rfl := g2 e
      cases er : runB c m (argB d 1) (pre ++ [i] ++ [0]) with
      | fin =>
        obtain ⟨k, hk, st⟩ := G.fin er
        refine ⟨(fun z => by cases z), (fun z => by cases z), fun _ => ?_⟩
        have z := g1.trans st
        rw [Nat.add_comm] at z
        exact z.loop
      | lv =>
        obtain ⟨k, hk, st⟩ := G.lv er
        exact ⟨fun _ => ⟨1 + k, by omega, g1.trans st⟩, (fun z => by cases z), fun z => by cases z⟩
      | no => exact ⟨(fun z => by cases z), (fun z => by cases z), fun _ => g1.no (G.no er)⟩
  rw [if_neg c3]
  by_cases c4 : headB d = "if" ∨ headB d = "open"
  · rw [if_pos c4]
    have b1 : brB d = true := decide_eq_true c4
    have o := ok (by rcases c4 with z | z <;> exact not_deal z (by decide +kernel))
    have lt : c (pre ++ [i]) < (blocksB d).length := A.val [i] d hi b1
    have hx : (blocksB d)[c (pre ++ [i])]? = some (blocksB d)[c (pre ++ [i])] := List.getElem?_eq_getElem lt
    rw [List.getD_eq_getElem?_getD, hx]
    show Goes B c R (runB c m (blocksB d)[c (pre ++ [i])] (pre ++ [i] ++ [c (pre ++ [i])])) _ _ _ _
    have hw : cntW m (blocksB d)[c (pre ++ [i])] ≤ ((blocksB d).map (cntW m)).sum := sum_get (j := c (pre ++ [i])) (by rw [List.getElem?_map, hx]; rfl)
    generalize (blocksB d)[c (pre ++ [i])] = x at hx hw
    have A1 := A.inn hi hs hx
    obtain ⟨e, h1, h2⟩ := hL
    have G := rec x (pre ++ [i] ++ [c (pre ++ [i])]) S Lp (hb _ (List.mem_of_getElem? hx)) A1 (fun k _ z => .up z hd c3 hS) (fun k => ⟨e, .up hd c3 h1, h2⟩)
    have f0 : (atW B (pre ++ [i] ++ [c (pre ++ [i])] ++ [0])).isSome = true ↔ listB x ≠ [] := by
      rw [A1.hat [0] (by simp)]
      exact first_at
    have g1 : Steps B c R 1 (pre ++ [i]) (stOf (pre ++ [i] ++ [c (pre ++ [i])]) S (listB x) 0) := by
      by_cases e : listB x = []
      · rw [e]
        refine .cons o (.past hd c1 c2 c3 ?_ hS) .refl
        cases z : atW B (pre ++ [i] ++ [c (pre ++ [i])] ++ [0]) with
        | none => rfl
        | some _ => exact absurd e (f0.mp (by rw [z]; rfl))
      · rw [st_first e]
        exact .cons o (.inn hd c1 c2 (by rw [if_neg c3]) (f0.mpr e)) .refl
    refine ⟨fun z => ?_, fun z => ?_, fun z => g1.no (G.no z)⟩
    · obtain ⟨k, hk, st⟩ := G.fin z
      exact ⟨1 + k, by omega, g1.trans st⟩
    · obtain ⟨k, hk, st⟩ := G.lv z
      exact ⟨1 + k, by omega, g1.trans st⟩
  · rw [if_neg c4]
    refine ⟨(fun z => by cases z), (fun z => by cases z), fun _ f => ?_⟩
    cases f with
    | zero => exact .zero
    | succ f => exact .deal n1 n2 hd (head_ten hs c1 c2 c3 c4)
theorem walk_items {B : DT} {c : List Nat → Nat} {R : List Nat} {m : Nat} (rec : WalkOk B c R m) {b : DT} {pre Fp Lp : List Nat} (A : At B c R b pre) (hg : ∀ d ∈ listB b, stmtB d = true ∧ ∀ x ∈ blocksB d, goodR m x = true)
    (hF : ∀ i, (atW B (pre ++ [i])).isSome = true → atW B (pre ++ [i + 1]) = none → Aft B (pre ++ [i]) Fp) (hL : ∀ i, ∃ e, Encl B (pre ++ [i]) e ∧ Aft B e Lp) :
    ∀ (ds : List DT) (i : Nat), (∀ k, ds[k]? = (listB b)[i + k]?) → Goes B c R (runL (runI c (runB c m)) pre ds i) ((ds.map (wtW (cntW m))).sum) (stOf pre Fp ds i) Fp Lp
  | [], i, _ => ⟨fun _ => ⟨0, by simp, .refl⟩, (fun z => by cases z), fun z => by cases z⟩
  | d :: r, i, h => by
    have hi : (listB b)[i]? = some d := (h 0).symm
    have hr : ∀ k, r[k]? = (listB b)[i + 1 + k]? := fun k => by
      rw [show i + 1 + k = i + (k + 1) by omega]
      exact h (k + 1)
    obtain ⟨hs, hb⟩ := hg d (List.mem_of_getElem? hi)
    have hd : atW B (pre ++ [i]) = some d := (A.hat [i] (by simp)).trans hi
    have hS : Aft B (pre ++ [i]) (stOf pre Fp r (i + 1)) := by
      cases r with
      | nil =>
        refine hF i (by rw [hd]; rfl) ?_
        rw [A.hat [i + 1] (by simp)]
        exact (hr 0).symm
      | cons x r =>
        refine .next ?_
        rw [A.hat [i + 1] (by simp)]
        show ((listB b)[i + 1]?).isSome = true
        have z := hr 0
        rw [Nat.add_zero] at z
        rw [← z]
        rfl
    have I := walk_item rec A hi hs hb hS (hL i)
    have G := walk_items rec A hg hF hL r (i + 1) hr
    have un : runL (runI c (runB c m)) pre (d :: r) i = (match runI c (runB c m) (pre ++ [i]) d with
      | .fin => runL (runI c (runB c m)) pre r (i + 1)
      | .lv => .lv
      | .no => .no) := by
      conv => lhs; unfold runL
      all_goals (cases runI c (runB c m) (pre ++ [i]) d <;> rfl)
    rw [un, List.map_cons, List.sum_cons]
    show Goes B c R _ _ (pre ++ [i]) Fp Lp
    cases e : runI c (runB c m) (pre ++ [i]) d with
    | fin =>
      obtain ⟨k, hk, st⟩ := I.fin e
      refine ⟨fun z => ?_, fun z => ?_, fun z => st.no (G.no z)⟩
      · obtain ⟨l, hl, st2⟩ := G.fin z
        exact ⟨k + l, by omega, st.trans st2⟩
      · obtain ⟨l, hl, st2⟩ := G.lv z
        exact ⟨k + l, by omega, st.trans st2⟩
    | lv =>
      obtain ⟨k, hk, st⟩ := I.lv e
      exact ⟨(fun z => by cases z), (fun _ => ⟨k, by omega, st⟩), fun z => by cases z⟩
    | no => exact ⟨(fun z => by cases z), (fun z => by cases z), fun _ => I.no e⟩
theorem walk_all {B : DT} {c : List Nat → Nat} {R : List Nat} : ∀ m, WalkOk B c R m
  | 0 => fun _ _ _ _ h => by cases h
  | m + 1 => fun b pre Fp Lp h A hF hL => walk_items (walk_all m) A (good_parts h).2 hF hL (listB b) 0 fun k => by rw [Nat.zero_add]
/-! ### from a repeat on -/
theorem Aft.short {B : DT} {p r : List Nat} (h : Aft B p r) : r.length ≤ p.length ∧ r ≠ p := by
  induction h with
  | next _ => exact ⟨by simp, fun z => by simpa using List.append_cancel_left z⟩
  | top => exact ⟨by simp, by simp⟩
  | rep _ _ _ => exact ⟨by simp only [List.length_append]; omega, fun z => by have := congrArg List.length z; simp at this⟩
  | up _ _ _ _ ih => exact ⟨by simp only [List.length_append]; omega, fun z => by have := congrArg List.length z; simp at this; omega⟩
theorem at_up : ∀ {b x : DT} {cp : List Nat} {j i : Nat}, atW b (cp ++ [j] ++ [i]) = some x → ∃ d, atW b cp = some d ∧ stmtB d = true
  | b, x, [], j, i, h => by
    obtain ⟨_, _, _, _, _, h⟩ := at_inv (show atW b (j :: i :: []) = some x from h)
    cases h
  | b, x, [a], j, i, h => by
    obtain ⟨d, c, h1, h2, _, _⟩ := at_inv (show atW b (a :: j :: [i]) = some x from h)
    exact ⟨d, h1, h2⟩
  | b, x, a :: a2 :: cp, j, i, h => by
    obtain ⟨d, c, h1, h2, h3, h4⟩ := at_inv (show atW b (a :: a2 :: (cp ++ [j] ++ [i])) = some x from h)
    obtain ⟨e, h5, h6⟩ := at_up h4
    exact ⟨e, (at_cons h1 h2 h3).trans h5, h6⟩
theorem aft_ex {B : DT} : ∀ (n : Nat) (p : List Nat), p.length ≤ n → (atW B p).isSome = true → ∃ r, Aft B p r
  | 0, p, h, z => by
    rw [List.eq_nil_of_length_eq_zero (by omega : p.length = 0)] at z
    cases z
  | n + 1, p, h, z => by
    rcases List.eq_nil_or_concat p with rfl | ⟨pre, i, rfl⟩
    · cases z
    rw [List.concat_eq_append] at z h ⊢
    cases e : atW B (pre ++ [i + 1]) with
    | some d => exact ⟨_, .next (by rw [e]; rfl)⟩
    | none =>
      rcases List.eq_nil_or_concat pre with rfl | ⟨cp, j, rfl⟩
      · exact ⟨_, .top⟩
      rw [List.concat_eq_append] at z e h ⊢
      obtain ⟨x, hx⟩ := Option.isSome_iff_exists.mp z
      obtain ⟨d, h1, h2⟩ := at_up hx
      by_cases c : headB d = "repeat"
      · exact ⟨_, .rep e h1 c⟩
      · obtain ⟨r, hr⟩ := aft_ex n cp (by simp at h; omega) (by rw [h1]; rfl)
        exact ⟨r, .up e h1 c hr⟩
/-- the law's word on a repeat with a choice -/
theorem pas_repeat {B : DT} {c : List Nat → Nat} {R : List Nat} {m n : Nat} {d : DT} (hR : atW B R = some d) (c3 : headB d = "repeat") (hat : ∀ v, v ≠ [] → atW B (R ++ [0] ++ v) = atW (argB d 1) v) (hg : goodR m (argB d 1) = true)
    (val : ∀ v e, atW (argB d 1) v = some e → brB e = true → c (R ++ [0] ++ v) < (blocksB e).length) (ne : listB (argB d 1) ≠ []) (hn : cntW m (argB d 1) < n) : Pas B c R n (R ++ [0] ++ [0]) (decide (runB c m (argB d 1) (R ++ [0]) = .fin)) := by
  obtain ⟨S, hS⟩ := aft_ex R.length R (Nat.le_refl _) (by rw [hR]; rfl)
  have A : At B c R (argB d 1) (R ++ [0]) := ⟨hat, ⟨[0], by simp, rfl⟩, val⟩
  have G := walk_all m (argB d 1) (R ++ [0]) R S hg A (fun k _ z => .rep z hR c3) (fun k => ⟨_, .here hR c3, hS⟩)
  rw [st_first ne] at G
  cases e : runB c m (argB d 1) (R ++ [0]) with
  | fin =>
    obtain ⟨k, hk, st⟩ := G.fin e
    have z := st.pas (.hit (f := n - k - 1))
    rw [show n - k - 1 + 1 + k = n by omega] at z
    exact z
  | lv =>
    obtain ⟨k, hk, st⟩ := G.lv e
    obtain ⟨s1, s2⟩ := hS.short
    have tk : S.take R.length ≠ R := fun z => s2 (by rw [List.take_of_length_le s1] at z; exact z)
    exact st.no (fun f => match f with
      | 0 => .zero
      | f + 1 => .out s2 (.inl tk)) n
  | no => exact G.no e n
end Oh
namespace Oh
open PySem PySem.Spec PyProof.Rows L2 PpSet
/-- the table of a block's statements by their paths -/
structure TabT (K : PySem.W.Frag) (H : Hp) (D : Addr) (B : DT) (n : Nat) : Prop where
  ex : ∃ kvs, H D = some (.dT kvs) ∧ kvs.length = n ∧ (∀ w d, atW B w = some d → stmtB d = true ∧ ∃ v, valV kvs (keyP w) = some v ∧ Rp K H v d) ∧ ∀ w, atW B w = none → valV kvs (keyP w) = none
theorem TabT.keep {K : PySem.W.Frag} {H H' : Hp} {D : Addr} {B : DT} {n : Nat} (s : Same H H') (h : TabT K H D B n) : TabT K H' D B n := by
  obtain ⟨kvs, h1, h2, h3, h4⟩ := h.ex
  exact ⟨kvs, s _ _ h1, h2, fun w d e => ⟨(h3 w d e).1, by
    obtain ⟨v, e1, r⟩ := (h3 w d e).2
    exact ⟨v, e1, r.keep s⟩⟩, h4⟩
theorem TabT.has {K : PySem.W.Frag} {H : Hp} {D q : Addr} {B d : DT} {n : Nat} {w : List Nat} (h : TabT K H D B n) (hq : H q = some (.tup (pathV w))) (e : atW B w = some d) : ∃ v, DGet H D (.ref q) (some v) ∧ Rp K H v d ∧ stmtB d = true := by
  obtain ⟨kvs, h1, h2, h3, h4⟩ := h.ex
  obtain ⟨hs, v, ev, r⟩ := h3 w d e
  refine ⟨v, ?_, r, hs⟩
  rw [← ev]
  exact DGet.t h1 (by rw [pathV_key]; exact hq)
theorem TabT.no {K : PySem.W.Frag} {H : Hp} {D q : Addr} {B : DT} {n : Nat} {w : List Nat} (h : TabT K H D B n) (hq : H q = some (.tup (pathV w))) (e : atW B w = none) : DGet H D (.ref q) none := by
  obtain ⟨kvs, h1, h2, h3, h4⟩ := h.ex
  rw [← h4 w e]
  exact DGet.t h1 (by rw [pathV_key]; exact hq)
theorem sIx_neg (n d k : Nat) (hk : 1 ≤ k) : HT.sIx n d (some (-(k : Int))) = n - k := by
  show (if (-(k : Int)) < 0 then ((-(k : Int)) + (n : Int)).toNat else min (-(k : Int)).toNat n) = n - k
  rw [if_pos (by omega)]
  omega
theorem cut_neg (w u : List Nat) (hu : 1 ≤ u.length) : cutV (pathV (w ++ u)) none (some (-(u.length : Int))) = pathV w := by
  unfold cutV
  rw [sIx_neg _ _ _ hu, HT.sIx_none, List.drop_zero, Nat.sub_zero, List.length_map, List.length_append, Nat.add_sub_cancel]
  show List.take _ (List.map _ _) = List.map _ _
  rw [← List.map_take, List.take_left]
/-- w[:-k] -/
theorem cut_go {K : PySem.W.Frag} {H : Hp} {Q : VK} {p : Addr} {w u : List Nat} {z : Int} (hp : H p = some (.tup (pathV (w ++ u)))) (hu : 1 ≤ u.length) (hz : z = -(u.length : Int)) (k : ∀ q H', Same H H' → H' q = some (.tup (pathV w)) → Q (.ref q) H') : rSlA K (.ref p) none (some z) H Q := by
  subst hz
  refine ⟨p, _, rfl, SqT.of hp, fun y => ?_, fun _ q nq => k q _ (Same.new nq) (by rw [upd_same, cut_neg w u hu])⟩
  have y2 := y.2
  rw [sIx_neg _ _ _ hu, List.length_map, List.length_append] at y2
  omega
theorem last_at (w : List Nat) (i : Nat) : atI (pathV (w ++ [i])) (-1) = some (V.int (i : Int)) := by
  have e : pathV (w ++ [i]) = pathV w ++ [V.int (i : Int)] := by
    show List.map _ _ = List.map _ _ ++ _
    rw [List.map_append]
    rfl
  rw [e]
  exact atI_last _ _
theorem Aft.next_inv {B : DT} {pre r : List Nat} {i : Nat} (h : Aft B (pre ++ [i]) r) (e : (atW B (pre ++ [i + 1])).isSome = true) : r = pre ++ [i + 1] := by
  generalize hp : pre ++ [i] = p at h
  cases h with
  | @next pre' i' z =>
    obtain ⟨rfl, e2⟩ := List.append_inj' hp rfl
    cases e2
    rfl
  | @top i' =>
    have l := congrArg List.length hp
    simp at l
    subst l
    obtain rfl : i = i' := by simpa using hp
    rfl
  | @rep cp j i' d z _ _ =>
    obtain ⟨rfl, e2⟩ := List.append_inj' hp rfl
    cases e2
    rw [z] at e
    cases e
  | @up cp r j i' d z _ _ _ =>
    obtain ⟨rfl, e2⟩ := List.append_inj' hp rfl
    cases e2
    rw [z] at e
    cases e
theorem Aft.one_inv {B : DT} {r : List Nat} {i : Nat} (h : Aft B [i] r) : r = [i + 1] := by
  generalize hp : [i] = p at h
  cases h with
  | @next pre' i' z =>
    have l := congrArg List.length hp
    simp at l
    subst l
    obtain rfl : i = i' := by simpa using hp
    rfl
  | @top i' =>
    obtain rfl : i = i' := by simpa using hp
    rfl
  | rep =>
    have l := congrArg List.length hp
    simp at l
  | up =>
    have l := congrArg List.length hp
    simp at l
theorem Aft.up_inv {B : DT} {cp r : List Nat} {j i : Nat} (h : Aft B (cp ++ [j] ++ [i]) r) (e : atW B (cp ++ [j] ++ [i + 1]) = none) : ∃ d, atW B cp = some d ∧ ((headB d = "repeat" ∧ r = cp) ∨ (headB d ≠ "repeat" ∧ Aft B cp r)) := by
  generalize hp : cp ++ [j] ++ [i] = p at h
  cases h with
  | @next pre' i' z =>
    obtain ⟨rfl, e2⟩ := List.append_inj' hp rfl
    cases e2
    rw [e] at z
    cases z
  | top =>
    have l := congrArg List.length hp
    simp at l
  | @rep cp' j' i' d z h1 h2 =>
    obtain ⟨e1, e2⟩ := List.append_inj' hp rfl
    obtain ⟨rfl, e3⟩ := List.append_inj' e1 rfl
    exact ⟨d, h1, .inl ⟨h2, rfl⟩⟩
  | @up cp' r j' i' d z h1 h2 h3 =>
    obtain ⟨e1, e2⟩ := List.append_inj' hp rfl
    obtain ⟨rfl, e3⟩ := List.append_inj' e1 rfl
    exact ⟨d, h1, .inr ⟨h2, h3⟩⟩
def spAft (K : PySem.W.Frag) : Sp := fun vs H Q _ => ∃ D p B n pre r, ∃ i : Nat, vs = [.ref D, .ref p] ∧ TabT K H D B n ∧ H p = some (.tup (pathV (pre ++ [i]))) ∧ pre.length ≤ 100 ∧ Aft B (pre ++ [i]) r ∧ ∀ q H', Same H H' → H' q = some (.tup (pathV r)) → Q (.ref q) H'
section
variable {P : Program} {w : World} {K : PySem.W.Frag} {mg : Str → Option Value} {base : Heap}
abbrev nAf : List Str := ["_law_table", "_law_path", "_law_place"]
abbrev p2t : List Str := ["_law_table", "_law_path"]
theorem scAft : FnScope nAf p2t (defScope lAfter) := ⟨rfl, rfl, rfl, by decide +kernel, rfl, by decide +kernel, by decide +kernel⟩
theorem ok_after {f : Addr} {fd : FuncData} (F : Fun K "_law_after" "_law_after" lAfter f fd) (T : TxtO mg) : FnOk P w K mg base CX0 1 f fd p2t (spAft K) := by
  refine F.ok scAft (fun vs H Q E h => ?_) (fun cdv A outer s H vs Q E hr h => ?_)
  · obtain ⟨D, p, B, n, pre, r, i, rfl, _⟩ := h
    rfl
  · obtain ⟨D, p, B, n, pre, r, i, rfl, tab, hp, hl, ha, k⟩ := h
    have hu := hu_of hr
    refine ⟨_, (pss_cons (ps_set (i := 2) scAft.nd rfl (Or.inl rfl) (pe_op op_catA (pe_slice sl_tupA (pv 1) po_none (po_some (pe_un un_neg pe_int))) (pe_tup (pa_cons (pe_op op_add (pe_ix ix_tup (pv 1) (pe_un un_neg pe_int) (fun _ _ => rfl)) pe_int) pa_nil))))
      (pss_cons (ps_while PassesOwn.never (pw_and (pt_cmp (pc_dnotin hu (pv 2) (pv 0))) (pw_and1 (pt_cmpR op_gt (pe_callB call_len_seq (by rfl) T.len boot_len (pa_cons (pv 2) pa_nil)) pe_int (nomark _)))).pt
        (pss_cons (ps_set (i := 1) scAft.nd rfl (Or.inl rfl) (pe_slice sl_tupA (pv 2) po_none (po_some (pe_un un_neg pe_int))))
        (pss_cons (ps_if (pt_cmpR op_eq (pe_ix ix_tup (pe_dget hu (pv 0) (pv 1) (fun _ _ => rfl)) pe_int (fun _ _ => rfl)) pe_str (nomark _))
          (pss_one (ps_ret (pv 1))) pss_nil)
        (pss_one (ps_set (i := 2) scAft.nd rfl (Or.inl rfl) (pe_op op_catA (pe_slice sl_tupA (pv 1) po_none (po_some (pe_un un_neg pe_int))) (pe_tup (pa_cons (pe_op op_add (pe_ix ix_tup (pv 1) (pe_un un_neg pe_int) (fun _ _ => rfl)) pe_int) pa_nil))))))))
      (pss_one (ps_ret (pv 2))))), ?_⟩
    refine ⟨_, rfl, 1, rfl, -1, rfl, cut_go (w := pre) (u := [i]) hp (Nat.le_refl 1) rfl fun q1 H1 s1 hq1 => ?_⟩
    refine ⟨_, rfl, 1, rfl, p, _, -1, _, rfl, rfl, SqT.of (s1 _ _ hp), last_at pre i, _, _, rfl, rfl, by show 1 ≤ sizeLine; decide, fun t nt => ?_⟩
    have s2 := Same.new (o := .tup [V.int ((i : Int) + 1)]) nt
    have ht : upd H1 t (.tup [V.int ((i : Int) + 1)]) t = some (.tup (pathV [i + 1])) := upd_same
    refine path_go (w := pre) (u := [i + 1]) (s2 _ _ hq1) ht (by simp) (by show pre.length + 1 ≤ 1000; omega) fun q2 H2 s3 hq2 => ?_
    refine ⟨fun m σ H' => ∃ (pre : List Nat) (i : Nat) (q : Addr) (x1 : Option V), σ = [some (.ref D), x1, some (.ref q)] ∧ Same H H' ∧ H' q = some (.tup (pathV (pre ++ [i + 1]))) ∧ pre.length ≤ 100 ∧ Aft B (pre ++ [i]) r ∧ m = pre.length, ⟨_, pre, i, q2, _, rfl, s1.trans (s2.trans s3), hq2, hl, ha, rfl⟩, ?_⟩
    rintro m σ H' ⟨pre, i, q, x1, rfl, s, hq, hl, ha, rfl⟩
    have tab' := tab.keep s
    cases e : atW B (pre ++ [i + 1]) with
    | some d =>
      obtain ⟨v, g, _, _⟩ := tab'.has hq e
      refine ⟨_, rfl, _, rfl, D, _, rfl, g, _, rfl, iteF (iteF ?_)⟩
      obtain rfl := ha.next_inv (by rw [e]; rfl)
      exact ⟨_, rfl, k q H' s hq⟩
    | none =>
      have g := tab'.no hq e
      refine ⟨_, rfl, _, rfl, D, _, rfl, g, _, rfl, iteT ⟨_, rfl, q, _, rfl, .inr (SqT.of hq), _, _, rfl, rfl, _, rfl, ite2 (fun z => ?_) (fun z => ?_)⟩⟩
      · have z := of_decide_eq_true z
        rw [List.length_map, List.length_append] at z
        have z : 1 < pre.length + 1 := by
          have z2 : (1 : Int) < ((pre.length + 1 : Nat) : Int) := z
          omega
        rcases List.eq_nil_or_concat pre with rfl | ⟨cp, j, rfl⟩
        · exact absurd z (by decide)
        rw [List.concat_eq_append] at hq ha e hl ⊢
        obtain ⟨d, hcp, hd⟩ := ha.up_inv e
        refine ⟨fun σ' H' => ∃ (pre : List Nat) (i : Nat) (q : Addr) (x1 : Option V), σ' = [some (.ref D), x1, some (.ref q)] ∧ Same H H' ∧ H' q = some (.tup (pathV (pre ++ [i + 1]))) ∧ pre.length ≤ 100 ∧ Aft B (pre ++ [i]) r ∧ pre.length < (cp ++ [j]).length,
          fun σ' H' ⟨pre, i, q, x1, e1, e2, e3, e4, e5, e6⟩ => ⟨_, e6, pre, i, q, x1, e1, e2, e3, e4, e5, rfl⟩, ?_⟩
        refine ⟨_, rfl, 2, rfl, -2, rfl, cut_go (w := cp) (u := [j, i + 1]) (by rw [hq, List.append_assoc]; rfl) (by show 1 ≤ 2; decide) rfl fun q3 H3 s3 hq3 => ?_⟩
        obtain ⟨v, g3, rv, hs⟩ := (tab'.keep s3).has hq3 hcp
        obtain ⟨pS, xS, rfl, hpS, hat⟩ := head_at rv hs
        refine ⟨_, rfl, _, rfl, D, _, rfl, g3, pS, _, _, _, rfl, rfl, SqT.of hpS, hat, rfl, _, rfl, ite2 (fun c => ?_) (fun c => ?_)⟩
        · have c : headB d = "repeat" := V.str.inj (of_decide_eq_true c)
          rcases hd with ⟨_, rfl⟩ | ⟨h, _⟩
          · exact ⟨_, rfl, k q3 H3 (s.trans s3) hq3⟩
          · exact absurd c h
        · have c : headB d ≠ "repeat" := fun y => c (decide_eq_true (congrArg V.str y))
          rcases hd with ⟨h, _⟩ | ⟨_, ha2⟩
          · exact absurd h c
          rcases List.eq_nil_or_concat cp with rfl | ⟨cp2, j2, rfl⟩
          · cases hcp
          rw [List.concat_eq_append] at hq3 ha2 hl ⊢
          have hl2 : cp2.length ≤ 100 := by
            simp at hl
            omega
          refine ⟨_, rfl, 1, rfl, -1, rfl, cut_go (w := cp2) (u := [j2]) hq3 (Nat.le_refl 1) rfl fun q4 H4 s4 hq4 => ?_⟩
          refine ⟨_, rfl, 1, rfl, q3, _, -1, _, rfl, rfl, SqT.of (s4 _ _ hq3), last_at cp2 j2, _, _, rfl, rfl, by show 1 ≤ sizeLine; decide, fun t2 nt2 => ?_⟩
          have s5 := Same.new (o := .tup [V.int ((j2 : Int) + 1)]) nt2
          have ht2 : upd H4 t2 (.tup [V.int ((j2 : Int) + 1)]) t2 = some (.tup (pathV [j2 + 1])) := upd_same
          refine path_go (w := cp2) (u := [j2 + 1]) (s5 _ _ hq4) ht2 (by simp) (by show cp2.length + 1 ≤ 1000; omega) fun q5 H5 s6 hq5 => ?_
          exact ⟨cp2, j2, q5, _, rfl, s.trans (s3.trans (s4.trans (s5.trans s6))), hq5, hl2, ha2, by simp⟩
      · have z : pre.length = 0 := by
          have z : ¬ (1 : Int) < ((pathV (pre ++ [i + 1])).length : Int) := fun y => z (decide_eq_true y)
          rw [List.length_map, List.length_append] at z
          have z2 : ¬ (1 : Int) < ((pre.length + 1 : Nat) : Int) := z
          omega
        obtain rfl := List.eq_nil_of_length_eq_zero z
        obtain rfl := Aft.one_inv ha
        exact ⟨_, rfl, k q H' s hq⟩
end
end Oh
namespace Oh
open PySem PySem.Spec PyProof.Rows L2 PpSet
theorem eqv_paths : ∀ u w : List Nat, PyData.eqv (pathP u) (pathP w) = decide (u = w) := by
  have key : ∀ u w : List Nat, PyData.eqvAll (u.map fun (n : Nat) => PyData.int (n : Int)) (w.map fun (n : Nat) => PyData.int (n : Int)) = decide (u = w) := by
    intro u
    induction u with
    | nil => intro w; cases w <;> simp [PyData.eqvAll]
    | cons a r ih =>
      intro w
      cases w with
      | nil => simp [PyData.eqvAll]
      | cons b s =>
        simp only [List.map_cons, PyData.eqvAll, PyData.eqv, ih]
        by_cases e : a = b
        · subst e
          simp
        · have e2 : ¬ ((a : Int) = (b : Int)) := by omega
          simp [e, e2]
  intro u w
  simp only [PyData.eqv]
  exact key u w
theorem take_path {K : PySem.W.Frag} {H : Hp} {q : Addr} {o : List Nat} {n : Nat} {Q : VK} (hq : H q = some (.tup (pathV o))) (k : ∀ r H', Same H H' → H' r = some (.tup (pathV (o.take n))) → Q (.ref r) H') : rSlA K (.ref q) none (some (n : Int)) H Q := by
  have e1 : HT.sIx (pathV o).length (pathV o).length (some (n : Int)) = min n (pathV o).length := HT.sIx_nat _ _ _
  refine ⟨q, _, rfl, SqT.of hq, fun z => ?_, fun _ r nr => ?_⟩
  · have : o.take n = o := List.take_of_length_le (by
      have z2 := z.2
      rw [e1, List.length_map] at z2
      omega)
    exact k q H (Same.refl H) (by rw [this]; exact hq)
  · refine k r _ (Same.new nr) ?_
    rw [upd_same]
    unfold cutV
    rw [e1, HT.sIx_none, List.drop_zero, Nat.sub_zero]
    show some (HO.tup (List.take _ (List.map _ o))) = some (HO.tup (List.map _ (o.take n)))
    rw [List.map_take]
    have : (pathV o).length = o.length := List.length_map ..
    by_cases c : n ≤ o.length
    · rw [this, Nat.min_eq_left c]
    · rw [this, Nat.min_eq_right (by omega), List.take_of_length_le (by rw [List.length_map]; exact Nat.le_refl _), List.take_of_length_le (by rw [List.length_map]; omega)]
def spOut (K : PySem.W.Frag) : Sp := fun vs H Q _ => ∃ D p B n w e, vs = [.ref D, .ref p] ∧ TabT K H D B n ∧ H p = some (.tup (pathV w)) ∧ Encl B w e ∧ ∀ q H', Same H H' → H' q = some (.tup (pathV e)) → Q (.ref q) H'
theorem Encl.inv {B : DT} {w e : List Nat} (h : Encl B w e) : ∃ (cp : List Nat) (j i : Nat) (d : DT), w = cp ++ [j, i] ∧ atW B cp = some d ∧ ((headB d = "repeat" ∧ e = cp) ∨ (headB d ≠ "repeat" ∧ Encl B cp e)) := by
  cases h with
  | here h1 h2 => exact ⟨_, _, _, _, List.append_assoc _ _ _, h1, .inl ⟨h2, rfl⟩⟩
  | up h1 h2 h3 => exact ⟨_, _, _, _, List.append_assoc _ _ _, h1, .inr ⟨h2, h3⟩⟩
theorem Encl.at_ {B : DT} {w e : List Nat} (h : Encl B w e) : (∃ d, atW B e = some d) ∧ e.length ≤ w.length := by
  induction h with
  | here h _ => exact ⟨⟨_, h⟩, by simp⟩
  | up _ _ _ ih => exact ⟨ih.1, by have := ih.2; simp; omega⟩
theorem Next.inv {B d : DT} {c : List Nat → Nat} {w w' : List Nat} (h : Next B c w w') (hd : atW B w = some d) :
    (headB d = "set" ∧ Aft B w w') ∨ (headB d = "leave" ∧ ∃ e, Encl B w e ∧ Aft B e w') ∨ (headB d ≠ "set" ∧ headB d ≠ "leave" ∧ (atW B (w ++ [if headB d = "repeat" then 0 else c w] ++ [0])).isSome = true ∧ w' = w ++ [if headB d = "repeat" then 0 else c w] ++ [0]) ∨
    (headB d = "repeat" ∧ atW B (w ++ [0] ++ [0]) = none ∧ w' = w) ∨ (headB d ≠ "set" ∧ headB d ≠ "leave" ∧ headB d ≠ "repeat" ∧ atW B (w ++ [c w] ++ [0]) = none ∧ Aft B w w') := by
  cases h with
  | set h1 h2 h3 => obtain rfl := Option.some.inj (hd.symm.trans h1); exact .inl ⟨h2, h3⟩
  | leave h1 h2 h3 h4 => obtain rfl := Option.some.inj (hd.symm.trans h1); exact .inr (.inl ⟨h2, _, h3, h4⟩)
  | inn h1 h2 h3 h4 h5 =>
    obtain rfl := Option.some.inj (hd.symm.trans h1)
    subst h4
    exact .inr (.inr (.inl ⟨h2, h3, h5, rfl⟩))
  | loop h1 h2 h3 => obtain rfl := Option.some.inj (hd.symm.trans h1); exact .inr (.inr (.inr (.inl ⟨h2, h3, rfl⟩)))
  | past h1 h2 h3 h4 h5 h6 => obtain rfl := Option.some.inj (hd.symm.trans h1); exact .inr (.inr (.inr (.inr ⟨h2, h3, h4, h5, h6⟩)))
/-- the choice that a dict makes -/
structure ChoT (H : Hp) (Cd : Addr) (B : DT) (c : List Nat → Nat) : Prop where
  ex : ∃ kvs, H Cd = some (.dT kvs) ∧ ∀ w d, atW B w = some d → brB d = true → valV kvs (keyP w) = some (.int (c w : Int))
theorem ChoT.keep {H H' : Hp} {Cd : Addr} {B : DT} {c : List Nat → Nat} (s : Same H H') (h : ChoT H Cd B c) : ChoT H' Cd B c := by
  obtain ⟨kvs, h1, h2⟩ := h.ex
  exact ⟨kvs, s _ _ h1, h2⟩
def spNxt (K : PySem.W.Frag) : Sp := fun vs H Q _ => ∃ D Cd p B c n w w', vs = [.ref D, .ref Cd, .ref p] ∧ TabT K H D B n ∧ ChoT H Cd B c ∧ H p = some (.tup (pathV w)) ∧ w.length ≤ 100 ∧ (∀ d, atW B w = some d → headB d ∉ dealS) ∧ Next B c w w' ∧ ∀ q H', Same H H' → H' q = some (.tup (pathV w')) → Q (.ref q) H'
theorem at_snoc {B d : DT} {w : List Nat} (h : atW B w = some d) : ∃ pre i, w = pre ++ [i] := by
  rcases List.eq_nil_or_concat w with rfl | ⟨pre, i, rfl⟩
  · cases h
  · exact ⟨pre, i, List.concat_eq_append⟩
section
variable {P : Program} {w : World} {K : PySem.W.Frag} {mg : Str → Option Value} {base : Heap}
abbrev nOu : List Str := ["_law_table", "_law_path", "_law_around"]
theorem scOut : FnScope nOu p2t (defScope lOut) := ⟨rfl, rfl, rfl, by decide +kernel, rfl, by decide +kernel, by decide +kernel⟩
theorem ok_out {f : Addr} {fd : FuncData} (F : Fun K "_law_out" "_law_out" lOut f fd) : FnOk P w K mg base CX0 1 f fd p2t (spOut K) := by
  refine F.ok scOut (fun vs H Q E h => ?_) (fun cdv A outer s H vs Q E hr h => ?_)
  · obtain ⟨D, p, B, n, w, e, rfl, _⟩ := h
    rfl
  · obtain ⟨D, p, B, n, w, e, rfl, tab, hp, he, k⟩ := h
    have hu := hu_of hr
    refine ⟨_, (pss_cons (ps_set (i := 2) scOut.nd rfl (Or.inl rfl) (pe_slice sl_tupA (pv 1) po_none (po_some (pe_un un_neg pe_int))))
      (pss_cons (ps_while PassesOwn.never (pt_cmpR op_ne (pe_ix ix_tup (pe_dget hu (pv 0) (pv 2) (fun _ _ => rfl)) pe_int (fun _ _ => rfl)) pe_str (nomark _))
        (pss_one (ps_set (i := 2) scOut.nd rfl (Or.inl rfl) (pe_slice sl_tupA (pv 2) po_none (po_some (pe_un un_neg pe_int))))))
      (pss_one (ps_ret (pv 2))))), ?_⟩
    obtain ⟨cp, j, i, d, rfl, hcp, hd⟩ := he.inv
    refine ⟨_, rfl, 2, rfl, -2, rfl, cut_go (w := cp) (u := [j, i]) hp (by show 1 ≤ 2; decide) rfl fun q1 H1 s1 hq1 => ?_⟩
    refine ⟨fun m σ H' => ∃ (cp : List Nat) (d : DT) (q : Addr), σ = [some (.ref D), some (.ref p), some (.ref q)] ∧ Same H H' ∧ H' q = some (.tup (pathV cp)) ∧ atW B cp = some d ∧ ((headB d = "repeat" ∧ e = cp) ∨ (headB d ≠ "repeat" ∧ Encl B cp e)) ∧ m = cp.length, ⟨_, cp, d, q1, rfl, s1, hq1, hcp, hd, rfl⟩, ?_⟩
    rintro m σ H' ⟨cp, d, q, rfl, s, hq, hcp, hd, rfl⟩
    have tab' := tab.keep s
    obtain ⟨v, g, rv, hs⟩ := tab'.has hq hcp
    obtain ⟨pS, xS, rfl, hpS, hat⟩ := head_at rv hs
    refine ⟨_, rfl, _, rfl, D, _, rfl, g, pS, _, _, _, rfl, rfl, SqT.of hpS, hat, rfl, _, rfl, ?_⟩
    show if (!decide (V.str (headB d) = V.str "repeat")) = true then _ else _
    rcases hd with ⟨hd, rfl⟩ | ⟨hd, he2⟩
    · rw [decide_eq_true (congrArg V.str hd)]
      exact iteF ⟨_, rfl, k q H' s hq⟩
    · rw [decide_eq_false (fun z => hd (V.str.inj z))]
      obtain ⟨cp2, j2, i2, d2, rfl, hcp2, hd2⟩ := he2.inv
      refine iteT ⟨fun σ' H' => ∃ (cp : List Nat) (d : DT) (q : Addr), σ' = [some (.ref D), some (.ref p), some (.ref q)] ∧ Same H H' ∧ H' q = some (.tup (pathV cp)) ∧ atW B cp = some d ∧ ((headB d = "repeat" ∧ e = cp) ∨ (headB d ≠ "repeat" ∧ Encl B cp e)) ∧ cp.length < (cp2 ++ [j2, i2]).length,
        fun σ' H' ⟨cp, d, q, e1, e2, e3, e4, e5, e6⟩ => ⟨_, e6, cp, d, q, e1, e2, e3, e4, e5, rfl⟩, ?_⟩
      refine ⟨_, rfl, 2, rfl, -2, rfl, cut_go (w := cp2) (u := [j2, i2]) hq (by show 1 ≤ 2; decide) rfl fun q3 H3 s3 hq3 => ?_⟩
      exact ⟨cp2, d2, q3, rfl, s.trans s3, hq3, hcp2, hd2, by simp⟩
abbrev nNx4 : List Str := ["_law_table", "_law_choice", "_law_place", "_law_statement", "_law_inner"]
abbrev p3n : List Str := ["_law_table", "_law_choice", "_law_place"]
theorem scNxt : FnScope nNx4 p3n (defScope lNext) := ⟨rfl, rfl, rfl, by decide +kernel, rfl, by decide +kernel, by decide +kernel⟩
theorem ok_next4 {f fA fO : Addr} {fd fdA fdO : FuncData} (F : Fun K "_law_next" "_law_next" lNext f fd)
    (GA : FnOk P w K mg base CX0 1 fA fdA p2t (spAft K)) (kA : PySem.W.keepIn K (.ref fA) = true) (bA : Binds K fdA p2t []) (mA : mg "_law_after" = some (.ref fA))
    (GO : FnOk P w K mg base CX0 1 fO fdO p2t (spOut K)) (kO : PySem.W.keepIn K (.ref fO) = true) (bO : Binds K fdO p2t []) (mO : mg "_law_out" = some (.ref fO)) :
    FnOk P w K mg base CX0 2 f fd p3n (spNxt K) := by
  refine F.ok scNxt (fun vs H Q E h => ?_) (fun cdv A outer s H vs Q E hr h => ?_)
  · obtain ⟨D, Cd, p, B, c, n, w, w', rfl, _⟩ := h
    rfl
  · obtain ⟨D, Cd, p, B, c, n, w, w', rfl, tab, cho, hp, hl, nd, nx, k⟩ := h
    have hu := hu_of hr
    refine ⟨_, (pss_cons (ps_set (i := 3) scNxt.nd rfl (Or.inl rfl) (pe_dget hu (pv 0) (pv 2) (fun _ _ => rfl)))
      (pss_cons (ps_if (pt_cmpR op_eq (pe_ix ix_tup (pv 3) pe_int (fun _ _ => rfl)) pe_str (nomark _))
        (pss_one (ps_ret (pe_call GA hr (by rfl) mA kA bA .nil pass0 (pa_cons (pv 0) (pa_cons (pv 2) pa_nil))))) pss_nil)
      (pss_cons (ps_if (pt_cmpR op_eq (pe_ix ix_tup (pv 3) pe_int (fun _ _ => rfl)) pe_str (nomark _))
        (pss_one (ps_ret (pe_call GA hr (by rfl) mA kA bA .nil pass0 (pa_cons (pv 0) (pa_cons (pe_call GO hr (by rfl) mO kO bO .nil pass0 (pa_cons (pv 0) (pa_cons (pv 2) pa_nil))) pa_nil))))) pss_nil)
      (pss_cons (ps_set (i := 4) scNxt.nd rfl (Or.inl rfl) (pe_op op_catA (pv 2) (pe_tup (pa_cons pe_int (pa_cons pe_int pa_nil)))))
      (pss_cons (ps_if (pt_cmpR op_ne (pe_ix ix_tup (pv 3) pe_int (fun _ _ => rfl)) pe_str (nomark _))
        (pss_one (ps_set (i := 4) scNxt.nd rfl (Or.inl rfl) (pe_op op_catA (pv 2) (pe_tup (pa_cons (pe_dget hu (pv 1) (pv 2) (fun _ _ => rfl)) (pa_cons pe_int pa_nil)))))) pss_nil)
      (pss_cons (ps_if (pt_cmp (pc_din hu (pv 4) (pv 0)))
        (pss_one (ps_ret (pv 4))) pss_nil)
      (pss_cons (ps_if (pt_cmpR op_eq (pe_ix ix_tup (pv 3) pe_int (fun _ _ => rfl)) pe_str (nomark _))
        (pss_one (ps_ret (pv 2))) pss_nil)
      (pss_one (ps_ret (pe_call GA hr (by rfl) mA kA bA .nil pass0 (pa_cons (pv 0) (pa_cons (pv 2) pa_nil)))))))))))), ?_⟩
    obtain ⟨d, hd⟩ : ∃ d, atW B w = some d := by cases nx <;> exact ⟨_, by assumption⟩
    obtain ⟨v, g, rv, hs⟩ := tab.has hp hd
    obtain ⟨pS, xS, rfl, hpS, hat⟩ := head_at rv hs
    have ge : ∀ {s : Str}, headB d ≠ s → ¬ decide (V.str (headB d) = V.str s) = true := fun h z => h (V.str.inj (of_decide_eq_true z))
    have yes : ∀ {s : Str}, headB d = s → decide (V.str (headB d) = V.str s) = true := fun h => decide_eq_true (congrArg V.str h)
    have aft : ∀ {H' : Hp} {q : Addr} {x r : List Nat} {dx : DT}, Same H H' → H' q = some (.tup (pathV x)) → atW B x = some dx → x.length ≤ 100 → Aft B x r → w' = r → spAft K [.ref D, .ref q] H' (fun v H'' => Q v H'') E0 := fun {H' q x r dx} s hq hx lx ha e => by
      obtain ⟨pre, i, rfl⟩ := at_snoc hx
      subst e
      refine ⟨D, q, B, n, pre, w', i, rfl, tab.keep s, hq, ?_, ha, fun q2 H2 s2 h2 => k q2 H2 (s.trans s2) h2⟩
      rw [List.length_append] at lx
      exact Nat.le_of_succ_le lx
    refine ⟨_, rfl, _, rfl, D, _, rfl, g, ?_⟩
    refine ⟨_, rfl, pS, _, _, _, rfl, rfl, SqT.of hpS, hat, rfl, _, rfl, ?_⟩
    have NX := nx.inv hd
    by_cases c1 : headB d = "set"
    · refine ite2 (fun _ => ?_) (fun z => absurd (yes c1) z)
      rcases NX with ⟨_, h⟩ | ⟨h, _⟩ | ⟨h, _⟩ | ⟨h, _⟩ | ⟨h, _⟩
      · exact ⟨_, rfl, _, rfl, aft (Same.refl H) hp hd hl h rfl⟩
      · rw [c1] at h; exact absurd h (by decide)
      · exact absurd c1 h
      · rw [c1] at h; exact absurd h (by decide)
      · exact absurd c1 h
    refine ite2 (fun z => absurd z (ge c1)) fun _ => ?_
    refine ⟨_, rfl, pS, _, _, _, rfl, rfl, SqT.of hpS, hat, rfl, _, rfl, ?_⟩
    by_cases c2 : headB d = "leave"
    · refine ite2 (fun _ => ?_) (fun z => absurd (yes c2) z)
      rcases NX with ⟨h, _⟩ | ⟨_, e, h3, h4⟩ | ⟨_, h, _⟩ | ⟨h, _⟩ | ⟨_, h, _⟩
      · exact absurd h c1
      · obtain ⟨⟨de, he⟩, le⟩ := h3.at_
        exact ⟨_, rfl, _, rfl, _, rfl, D, p, B, n, w, e, rfl, tab, hp, h3, fun q H2 s2 hq => aft s2 hq he (by omega) h4 rfl⟩
      · exact absurd c2 h
      · rw [c2] at h; exact absurd h (by decide)
      · exact absurd c2 h
    refine ite2 (fun z => absurd z (ge c2)) fun _ => ?_
    -- within
    refine ⟨_, rfl, by show 2 ≤ sizeLine; decide, fun t nt => ?_⟩
    have s1 := Same.new (o := .tup [V.int 0, V.int 0]) nt
    have ht : upd H t (.tup [V.int 0, V.int 0]) t = some (.tup (pathV [0, 0])) := upd_same
    generalize upd H t (.tup [V.int 0, V.int 0]) = H1 at s1 ht ⊢
    refine path_go (s1 _ _ hp) ht (by simp) (by show w.length + 2 ≤ 1000; omega) fun q2 H2 s2 hq2 => ?_
    have s12 := s1.trans s2
    refine ⟨_, rfl, pS, _, _, _, rfl, rfl, SqT.of (s12 _ _ hpS), hat, rfl, _, rfl, ?_⟩
    show if (!decide (V.str (headB d) = V.str "repeat")) = true then _ else _
    by_cases c3 : headB d = "repeat"
    · rw [decide_eq_true (congrArg V.str c3)]
      refine iteF ?_
      have tab2 := tab.keep s12
      rcases NX with ⟨h, _⟩ | ⟨h, _⟩ | ⟨_, _, h, e⟩ | ⟨_, h, e⟩ | ⟨_, _, h, _⟩
      · exact absurd h c1
      · exact absurd h c2
      · rw [if_pos c3] at h e
        obtain ⟨x, hx⟩ := Option.isSome_iff_exists.mp h
        have e2 : w ++ [0] ++ [0] = w ++ [0, 0] := by simp
        rw [e2] at hx e
        obtain ⟨vx, gx, _, _⟩ := tab2.has hq2 hx
        subst e
        exact ⟨_, rfl, _, rfl, D, _, rfl, gx, _, rfl, iteT ⟨_, rfl, k q2 H2 s12 hq2⟩⟩
      · have e2 : w ++ [0] ++ [0] = w ++ [0, 0] := by simp
        rw [e2] at h
        subst e
        refine ⟨_, rfl, _, rfl, D, _, rfl, tab2.no hq2 h, _, rfl, iteF ?_⟩
        exact ⟨_, rfl, pS, _, _, _, rfl, rfl, SqT.of (s12 _ _ hpS), hat, rfl, _, rfl, ite2 (fun _ => ⟨_, rfl, k p H2 s12 (s12 _ _ hp)⟩) (fun z => absurd (yes c3) z)⟩
      · exact absurd c3 h
    · rw [decide_eq_false (fun z => c3 (V.str.inj z))]
      have hbr : brB d = true := decide_eq_true (by
        by_cases c4 : headB d = "if" ∨ headB d = "open"
        · exact c4
        · exact absurd (head_ten hs c1 c2 c3 c4) (nd d hd))
      obtain ⟨kc, hC, gc⟩ := (cho.keep s12).ex
      have vc := gc w d hd hbr
      have gC : DGet H2 Cd (.ref p) (some (.int (c w : Int))) := by
        rw [← vc]
        exact DGet.t hC (by rw [pathV_key]; exact s12 _ _ hp)
      refine iteT ⟨_, rfl, _, rfl, _, rfl, Cd, _, rfl, gC, by show 2 ≤ sizeLine; decide, fun t3 nt3 => ?_⟩
      have s3 := Same.new (o := .tup [V.int (c w : Int), V.int 0]) nt3
      have ht3 : upd H2 t3 (.tup [V.int (c w : Int), V.int 0]) t3 = some (.tup (pathV [c w, 0])) := upd_same
      generalize upd H2 t3 (.tup [V.int (c w : Int), V.int 0]) = H3 at s3 ht3 ⊢
      refine path_go (s3 _ _ (s12 _ _ hp)) ht3 (by simp) (by show w.length + 2 ≤ 1000; omega) fun q4 H4 s4 hq4 => ?_
      have s14 := s12.trans (s3.trans s4)
      have tab4 := tab.keep s14
      have e2 : w ++ [c w] ++ [0] = w ++ [c w, 0] := by simp
      rcases NX with ⟨h, _⟩ | ⟨h, _⟩ | ⟨_, _, h, e⟩ | ⟨h, _⟩ | ⟨_, _, _, h, ha⟩
      · exact absurd h c1
      · exact absurd h c2
      · rw [if_neg c3, e2] at h e
        obtain ⟨x, hx⟩ := Option.isSome_iff_exists.mp h
        obtain ⟨vx, gx, _, _⟩ := tab4.has hq4 hx
        subst e
        exact ⟨_, rfl, _, rfl, D, _, rfl, gx, _, rfl, iteT ⟨_, rfl, k q4 H4 s14 hq4⟩⟩
      · exact absurd h c3
      · rw [e2] at h
        refine ⟨_, rfl, _, rfl, D, _, rfl, tab4.no hq4 h, _, rfl, iteF ?_⟩
        exact ⟨_, rfl, pS, _, _, _, rfl, rfl, SqT.of (s14 _ _ hpS), hat, rfl, _, rfl, ite2 (fun z => absurd z (ge c3)) (fun _ => ⟨_, rfl, _, rfl, aft s14 (s14 _ _ hp) hd hl ha rfl⟩)⟩
end
end Oh
namespace Oh
open PySem PySem.Spec PyProof.Rows L2 PpSet
theorem Pas.inv {B : DT} {c : List Nat → Nat} {R p : List Nat} {f : Nat} {b : Bool} (h : Pas B c R (f + 1) p b) : (p = R ∧ b = true) ∨ (p ≠ R ∧ (p.take R.length ≠ R ∨ atW B p = none) ∧ b = false) ∨
    (∃ d, p ≠ R ∧ p.take R.length = R ∧ atW B p = some d ∧ ((headB d ∈ dealS ∧ b = false) ∨ (headB d ∉ dealS ∧ ∃ p', Next B c p p' ∧ Pas B c R f p' b))) := by
  cases h with
  | hit => exact .inl ⟨rfl, rfl⟩
  | out h1 h2 => exact .inr (.inl ⟨h1, h2, rfl⟩)
  | deal h1 h2 h3 h4 => exact .inr (.inr ⟨_, h1, h2, h3, .inl ⟨h4, rfl⟩⟩)
  | step h1 h2 h3 h4 h5 h6 => exact .inr (.inr ⟨_, h1, h2, h3, .inr ⟨h4, _, h5, h6⟩⟩)
theorem Pas.zero_inv {B : DT} {c : List Nat → Nat} {R p : List Nat} {b : Bool} (h : Pas B c R 0 p b) : b = false := by
  cases h
  rfl
def spPas (K : PySem.W.Frag) : Sp := fun vs H Q _ => ∃ D Cd p B c n R res, vs = [.ref D, .ref Cd, .ref p] ∧ TabT K H D B n ∧ n ≤ 500 ∧ ChoT H Cd B c ∧ H p = some (.tup (pathV R)) ∧ R.length ≤ 60 ∧ (∀ w d, atW B w = some d → w.length ≤ 60) ∧
  ((atW B (R ++ [0] ++ [0]) = none ∧ res = true) ∨ ((atW B (R ++ [0] ++ [0])).isSome = true ∧ Pas B c R (3 * n + 3) (R ++ [0] ++ [0]) res)) ∧ ∀ H', Same H H' → Q (.bl res) H'
section
variable {P : Program} {w : World} {K : PySem.W.Frag} {mg : Str → Option Value} {base : Heap}
abbrev nPs : List Str := ["_law_table", "_law_choice", "_law_path", "_law_place", "_law_k"]
abbrev p3s : List Str := ["_law_table", "_law_choice", "_law_path"]
theorem scPas : FnScope nPs p3s (defScope lPasses) := ⟨rfl, rfl, rfl, by decide +kernel, rfl, by decide +kernel, by decide +kernel⟩
theorem ok_passes {f fN : Addr} {fd fdN : FuncData} (F : Fun K "_law_passes" "_law_passes" lPasses f fd) (T : TxtO mg)
    (GN : FnOk P w K mg base CX0 2 fN fdN p3n (spNxt K)) (kN : PySem.W.keepIn K (.ref fN) = true) (bN : Binds K fdN p3n []) (mN : mg "_law_next" = some (.ref fN)) :
    FnOk P w K mg base CX0 3 f fd p3s (spPas K) := by
  refine F.ok scPas (fun vs H Q E h => ?_) (fun cdv A outer s H vs Q E hr h => ?_)
  · obtain ⟨D, Cd, p, B, c, n, R, res, rfl, _⟩ := h
    rfl
  · obtain ⟨D, Cd, p, B, c, n, R, res, rfl, tab, hn, cho, hp, hl, hlen, hres, k⟩ := h
    have hu := hu_of hr
    have hu2 := hr.units
    refine ⟨_, (pss_cons (ps_set (i := 3) scPas.nd rfl (Or.inl rfl) (pe_op op_catA (pv 2) (pe_tup (pa_cons pe_int (pa_cons pe_int pa_nil)))))
      (pss_cons (ps_if (pt_cmp (pc_dnotin hu (pv 3) (pv 0)))
        (pss_one (ps_ret pe_bl)) pss_nil)
      (pss_cons (ps_for PassesOwn.never rfl (pi_range1 (by rfl) T.range (pa_cons (pe_op op_add (pe_op op_mul pe_int (pe_callB call_len_dT (by rfl) T.len boot_len (pa_cons (pv 0) pa_nil))) pe_int) pa_nil)) (pg_name (i := 4) scPas.nd rfl (Or.inl rfl))
        (pss_cons (ps_if (pt_cmpR (op_eqD hu2) (pv 3) (pv 2) (nomark _))
          (pss_one (ps_ret pe_bl)) pss_nil)
        (pss_cons (ps_if (pw_or (pt_cmpR (op_neD hu2) (pe_slice sl_tupA (pv 3) po_none (po_some (pe_callB call_len_seq (by rfl) T.len boot_len (pa_cons (pv 2) pa_nil)))) (pv 2) (nomark _)) (pw_or1 (pt_cmp (pc_dnotin hu (pv 3) (pv 0))))).pt
          (pss_one (ps_ret pe_bl)) pss_nil)
        (pss_cons (ps_if (pt_cmpR op_in_seq (pe_ix ix_tup (pe_dget hu (pv 0) (pv 3) (fun _ _ => rfl)) pe_int (fun _ _ => rfl)) (pe_tup (pa_cons pe_str (pa_cons pe_str (pa_cons pe_str (pa_cons pe_str (pa_cons pe_str pa_nil)))))) (by rfl))
          (pss_one (ps_ret pe_bl)) pss_nil)
        (pss_one (ps_set (i := 3) scPas.nd rfl (Or.inl rfl) (pe_call GN hr (by rfl) mN kN bN .nil pass0 (pa_cons (pv 0) (pa_cons (pv 1) (pa_cons (pv 3) pa_nil))))))))))
      (pss_one (ps_ret pe_bl))))), ?_⟩
    refine ⟨_, rfl, by show 2 ≤ sizeLine; decide, fun t nt => ?_⟩
    have s1 := Same.new (o := .tup [V.int 0, V.int 0]) nt
    have ht : upd H t (.tup [V.int 0, V.int 0]) t = some (.tup (pathV [0, 0])) := upd_same
    generalize upd H t (.tup [V.int 0, V.int 0]) = H1 at s1 ht ⊢
    refine path_go (s1 _ _ hp) ht (by simp) (by show R.length + 2 ≤ 1000; omega) fun q0 H2 s2 hq0 => ?_
    have s12 := s1.trans s2
    have e2 : R ++ [0] ++ [0] = R ++ [0, 0] := by simp
    rw [e2] at hres
    rcases hres with ⟨hz, rfl⟩ | ⟨hz, hpas⟩
    · exact ⟨_, rfl, _, rfl, D, _, rfl, (tab.keep s12).no hq0 hz, _, rfl, iteT (k H2 s12)⟩
    · obtain ⟨x0, hx0⟩ := Option.isSome_iff_exists.mp hz
      obtain ⟨v0, g0, _, _⟩ := (tab.keep s12).has hq0 hx0
      refine ⟨_, rfl, _, rfl, D, _, rfl, g0, _, rfl, iteF ?_⟩
      obtain ⟨kvs, hD, hkn, _, _⟩ := (tab.keep s12).ex
      have eN : (3 * ((kvs.length : Nat) : Int) + 3).toNat = 3 * n + 3 := by omega
      refine ⟨_, rfl, D, kvs, rfl, hD, _, _, rfl, rfl, .inl ⟨by decide, by decide⟩, _, _, rfl, rfl, _, rfl, by omega, by omega, for_range (lo := 0) (n := (3 * ((kvs.length : Nat) : Int) + 3).toNat) (fun i σ H' => ∃ (q : Addr) (x4 : Option V) (pl : List Nat), σ = [some (.ref D), some (.ref Cd), some (.ref p), some (.ref q), x4] ∧ Same H H' ∧ H' q = some (.tup (pathV pl)) ∧ Pas B c R (3 * n + 3 - i) pl res)
        ⟨q0, _, _, rfl, s12, hq0, hpas⟩ ?_ ?_⟩
      · rintro i σ H3 hi ⟨q, x4, pl, rfl, s3, hq, hp3⟩
        rw [eN] at hi
        rw [show 3 * n + 3 - i = (3 * n + 3 - (i + 1)) + 1 by omega] at hp3
        have hpp := s3 _ _ hp
        refine ⟨_, rfl, _, rfl, _, _, path_dp hq, path_dp hpp, shaped_path _, shaped_path _, _, rfl, ?_⟩
        rw [eqv_paths]
        rcases hp3.inv with ⟨rfl, rfl⟩ | ⟨ne, hout, rfl⟩ | ⟨d, ne, tk, hd, hrest⟩
        · rw [decide_eq_true rfl]
          exact iteT (k H3 s3)
        · rw [decide_eq_false ne]
          refine iteF ⟨_, rfl, _, rfl, p, _, rfl, .inr (SqT.of hpp), _, rfl, take_path hq fun r H4 s4 hr4 => ⟨_, rfl, _, _, path_dp hr4, path_dp (s4 _ _ hpp), shaped_path _, shaped_path _, _, rfl, ?_⟩⟩
          rw [eqv_paths, List.length_map]
          by_cases ct : pl.take R.length = R
          · rw [decide_eq_true ct]
            have hno := hout.resolve_left (fun z => z ct)
            exact iteF ⟨_, rfl, _, rfl, D, _, rfl, (tab.keep (s3.trans s4)).no (s4 _ _ hq) hno, _, rfl, iteT (k H4 (s3.trans s4))⟩
          · rw [decide_eq_false ct]
            exact iteT (iteT (k H4 (s3.trans s4)))
        · rw [decide_eq_false ne]
          refine iteF ⟨_, rfl, _, rfl, p, _, rfl, .inr (SqT.of hpp), _, rfl, take_path hq fun r H4 s4 hr4 => ⟨_, rfl, _, _, path_dp hr4, path_dp (s4 _ _ hpp), shaped_path _, shaped_path _, _, rfl, ?_⟩⟩
          rw [eqv_paths, List.length_map, decide_eq_true tk]
          have s34 := s3.trans s4
          have tab4 := tab.keep s34
          obtain ⟨v, g, rv, hs⟩ := tab4.has (s4 _ _ hq) hd
          obtain ⟨pS, xS, rfl, hpS, hat⟩ := head_at rv hs
          refine iteF ⟨_, rfl, _, rfl, D, _, rfl, g, _, rfl, iteF ?_⟩
          refine ⟨_, rfl, _, rfl, D, _, rfl, g, pS, _, _, _, rfl, rfl, SqT.of hpS, hat, by show 5 ≤ sizeLine; decide, fun t5 nt5 => ⟨t5, _, rfl, .inr (SqT.of upd_same), rfl, by decide +kernel, _, rfl, ?_⟩⟩
          have s5 := Same.new (o := .tup [V.str "tell", V.str "hear", V.str "wait", V.str "home", V.str "fail"]) nt5
          generalize upd H4 t5 (.tup [V.str "tell", V.str "hear", V.str "wait", V.str "home", V.str "fail"]) = H5 at s5 ⊢
          show if inV (V.str (headB d)) [V.str "tell", V.str "hear", V.str "wait", V.str "home", V.str "fail"] = true then _ else _
          rw [show [V.str "tell", V.str "hear", V.str "wait", V.str "home", V.str "fail"] = dealS.map V.str from rfl, inV_strs]
          rcases hrest with ⟨hd1, rfl⟩ | ⟨hd1, p', hnx, hp4⟩
          · rw [decide_eq_true hd1]
            exact iteT (k H5 (s34.trans s5))
          · rw [decide_eq_false hd1]
            have s35 := s34.trans s5
            have l60 := hlen pl d hd
            refine iteF ⟨_, rfl, _, rfl, _, rfl, D, Cd, q, B, c, n, pl, p', rfl, tab.keep s35, cho.keep s35, s5 _ _ (s4 _ _ hq), by omega, fun d' h' => ?_, hnx, fun q2 H6 s6 hq6 => ⟨q2, _, p', rfl, s35.trans s6, hq6, hp4⟩⟩
            obtain rfl := Option.some.inj (hd.symm.trans h')
            exact hd1
      · rintro σ H3 ⟨q, x4, pl, rfl, s3, hq, hp3⟩
        rw [eN, Nat.sub_self] at hp3
        obtain rfl := hp3.zero_inv
        exact k H3 s3
end
end Oh
namespace Oh
open PySem PySem.Spec PyProof.Rows L2 PpSet
theorem good_up : ∀ {m k : Nat} {b : DT}, m ≤ k → goodR m b = true → goodR k b = true
  | 0, _, _, _, h => by cases h
  | m + 1, 0, _, h, _ => absurd h (by omega)
  | m + 1, k + 1, b, hm, h => by
    obtain ⟨h1, h2⟩ := good_parts h
    exact Bool.and_eq_true_iff.mpr ⟨h1, List.all_eq_true.mpr fun d hd => Bool.and_eq_true_iff.mpr ⟨(h2 d hd).1, List.all_eq_true.mpr fun c hc => good_up (by omega) ((h2 d hd).2 c hc)⟩⟩
theorem cnt_up : ∀ {m k : Nat} {b : DT}, m ≤ k → goodR m b = true → cntW k b = cntW m b
  | 0, _, _, _, h => by cases h
  | m + 1, 0, _, h, _ => absurd h (by omega)
  | m + 1, k + 1, b, hm, h => by
    obtain ⟨h1, h2⟩ := good_parts h
    show ((listB b).map (wtW (cntW k))).sum = ((listB b).map (wtW (cntW m))).sum
    congr 1
    refine List.map_congr_left fun d hd => ?_
    unfold wtW
    rw [if_pos (h2 d hd).1, if_pos (h2 d hd).1]
    congr 2
    exact List.map_congr_left fun c hc => cnt_up (by omega) ((h2 d hd).2 c hc)
theorem rows_atB {M : Nat} {B : DT} {r : WRow} (h : r ∈ rowsW M B [] false) : atW B r.1 = some r.2.1 := by
  obtain ⟨v, e, hv⟩ := rows_at h
  rw [List.nil_append] at e
  rw [e]
  exact hv
theorem row_ex {M : Nat} {B d : DT} {w : List Nat} (hg : goodR M B = true) (h : atW B w = some d) : ∃ lp, (w, d, lp) ∈ rowsW M B [] false := by
  obtain ⟨lp, z⟩ := at_rows (path := []) (lp := false) (good_dep hg) h
  exact ⟨lp, z⟩
theorem rows_nodup {M : Nat} {B : DT} : ((rowsW M B [] false).map (·.1)).Nodup := by
  have z := rows_asc (m := M) (b := B) (path := []) (lp := false)
  rw [List.nodup_iff_pairwise_ne, List.pairwise_map]
  exact z.imp fun {a b} h e => by
    rw [e, ltP_self] at h
    cases h
theorem at_deep : ∀ {M : Nat} {B d : DT} {w : List Nat}, goodR M B = true → atW B w = some d → stmtB d = true ∧ w.length ≤ 2 * M ∧ ∃ m, m + 1 ≤ M ∧ (∀ x ∈ blocksB d, goodR m x = true) ∧ wtW (cntW m) d ≤ cntW M B
  | 0, _, _, _, h, _ => by cases h
  | M + 1, _, _, [], _, h => by cases h
  | M + 1, B, d, [i], hg, h => by
    have h : (listB B)[i]? = some d := h
    obtain ⟨_, h2⟩ := good_parts hg
    have hd := h2 d (List.mem_of_getElem? h)
    refine ⟨hd.1, by show 1 ≤ 2 * (M + 1); omega, M, Nat.le_refl _, hd.2, ?_⟩
    exact sum_get (l := (listB B).map (wtW (cntW M))) (j := i) (by rw [List.getElem?_map, h]; rfl)
  | M + 1, B, d, i :: j :: w, hg, h => by
    obtain ⟨d0, c, h1, h2, h3, h4⟩ := at_inv h
    obtain ⟨_, g2⟩ := good_parts hg
    have hc := (g2 d0 (List.mem_of_getElem? h1)).2 c (List.mem_of_getElem? h3)
    obtain ⟨a1, a2, m, a3, a4, a5⟩ := at_deep hc h4
    refine ⟨a1, by simp only [List.length_cons]; omega, m, by omega, a4, Nat.le_trans a5 ?_⟩
    have z1 : cntW M c ≤ ((blocksB d0).map (cntW M)).sum := sum_get (j := j) (by rw [List.getElem?_map, h3]; rfl)
    have z2 : wtW (cntW M) d0 ≤ ((listB B).map (wtW (cntW M))).sum := sum_get (j := i) (by rw [List.getElem?_map, h1]; rfl)
    have z3 : wtW (cntW M) d0 = 1 + ((blocksB d0).map (cntW M)).sum := by unfold wtW; rw [if_pos h2]
    show cntW M c ≤ ((listB B).map (wtW (cntW M))).sum
    omega
theorem at_app : ∀ {B d x : DT} {R v : List Nat} {j : Nat}, atW B R = some d → stmtB d = true → (blocksB d)[j]? = some x → atW B (R ++ [j] ++ v) = atW x v
  | _, _, _, [], _, _, h, _, _ => by cases h
  | B, d, x, [i], v, j, h, hs, hx => by
    show atW B (i :: j :: v) = atW x v
    exact at_cons h hs hx
  | B, d, x, i :: k :: R, v, j, h, hs, hx => by
    obtain ⟨d0, c, h1, h2, h3, h4⟩ := at_inv h
    show atW B (i :: k :: (R ++ [j] ++ v)) = atW x v
    rw [at_cons h1 h2 h3]
    exact at_app h4 hs hx
/-- how many ways there are at a path -/
def WayN (B : DT) (q : List Nat) : Nat := match atW B q with
  | some d => if brB d = true then (blocksB d).length else 1
  | none => 1
theorem nb_at {B d : DT} {q : List Nat} (h : atW B q = some d) (hb : brB d = true) : WayN B q = (blocksB d).length := by
  unfold WayN
  rw [h]
  exact if_pos hb
theorem nb_pos {M : Nat} {B : DT} (hg : goodR M B = true) (q : List Nat) : 0 < WayN B q := by
  unfold WayN
  cases h : atW B q with
  | none => exact Nat.one_pos
  | some d =>
    show 0 < if brB d = true then (blocksB d).length else 1
    by_cases hb : brB d = true
    · rw [if_pos hb]
      have := br_some (at_deep hg h).1 (of_decide_eq_true hb)
      omega
    · rw [if_neg hb]
      exact Nat.one_pos
def asgF (a : Asg) (q : List Nat) : Nat := (a.lookup q).getD 0
theorem look_mem : ∀ {a : Asg} {p : List Nat} {n : Nat}, (a.map (·.1)).Nodup → (p, n) ∈ a → asgF a p = n
  | [], _, _, _, h => by cases h
  | x :: r, p, n, nd, h => by
    obtain ⟨n1, n2⟩ := List.nodup_cons.mp (show (x.1 :: r.map (·.1)).Nodup from nd)
    unfold asgF
    obtain ⟨x1, x2⟩ := x
    rcases List.mem_cons.mp h with h | h
    · obtain ⟨rfl, rfl⟩ := Prod.mk.inj h
      rw [List.lookup_cons_self]
      rfl
    · have ne : (p == x1) = false := beq_eq_false_iff_ne.mpr fun e => n1 (List.mem_map.mpr ⟨(p, n), h, e⟩)
      rw [List.lookup_cons, ne]
      exact look_mem n2 h
theorem paired_mem {α β : Type} {P : α → β → Prop} : ∀ {a : List α} {l : List β} {y : β}, Paired P a l → y ∈ l → ∃ x ∈ a, P x y
  | _, _, _, .nil, h => by cases h
  | _, _, y, .cons (a := x) h t, m => by
    rcases List.mem_cons.mp m with rfl | m
    · exact ⟨x, List.mem_cons_self, h⟩
    · obtain ⟨z, h1, h2⟩ := paired_mem t m
      exact ⟨z, List.mem_cons_of_mem _ h1, h2⟩
theorem paired_map {α β : Type} {P : α → β → Prop} {f : β → α} : ∀ {l : List β}, (∀ y ∈ l, P (f y) y) → Paired P (l.map f) l
  | [], _ => .nil
  | y :: r, h => .cons (h y List.mem_cons_self) (paired_map fun z m => h z (List.mem_cons_of_mem _ m))
/-- an assignment of the law's list -/
structure AsgB (M : Nat) (B : DT) (a : Asg) : Prop where
  nd : (a.map (·.1)).Nodup
  at_ : ∀ w d, atW B w = some d → brB d = true → (w, asgF a w) ∈ a ∧ asgF a w < (blocksB d).length
theorem asg_of {M : Nat} {B : DT} {a : Asg} (hg : goodR M B = true) (h : a ∈ chC (rowsW M B [] false) [[]]) : AsgB M B a := by
  obtain ⟨a0, h0, a1, e, p⟩ := chC_mem.mp h
  rw [List.mem_singleton.mp h0, List.nil_append] at e
  subst e
  have nd : (a.map (·.1)).Nodup := by
    rw [asg_keys p]
    exact rows_nodup.sublist (List.filter_sublist.map _)
  refine ⟨nd, fun w d hw hb => ?_⟩
  obtain ⟨lp, hr⟩ := row_ex hg hw
  obtain ⟨⟨x1, x2⟩, hx, e1, e2⟩ := paired_mem p (List.mem_filter.mpr ⟨hr, hb⟩)
  have e1 : x1 = w := e1
  subst e1
  have l := look_mem nd hx
  rw [l]
  exact ⟨hx, e2⟩
theorem asg_ex {M : Nat} {B : DT} {c : List Nat → Nat} (hg : goodR M B = true) (vc : Val (WayN B) c) : ∃ a ∈ chC (rowsW M B [] false) [[]], ∀ w d, atW B w = some d → brB d = true → asgF a w = c w := by
  have mem : ((rowsW M B [] false).filter fun r => brB r.2.1).map (fun r => (r.1, c r.1)) ∈ chC (rowsW M B [] false) [[]] :=
    chC_mem.mpr ⟨[], List.mem_singleton.mpr rfl, _, rfl, paired_map fun r hr => ⟨rfl, by
      obtain ⟨h1, h2⟩ := List.mem_filter.mp hr
      have z := vc r.1
      rw [nb_at (rows_atB h1) h2] at z
      exact z⟩⟩
  have A := asg_of hg mem
  refine ⟨_, mem, fun w d hw hb => look_mem A.nd ?_⟩
  obtain ⟨lp, hr⟩ := row_ex hg hw
  exact List.mem_map.mpr ⟨(w, d, lp), List.mem_filter.mpr ⟨hr, hb⟩, rfl⟩
/-- what the law's walk says with an assignment -/
def resA (M : Nat) (B : DT) (a : Asg) (R : List Nat) (d : DT) : Bool := if (atW B (R ++ [0] ++ [0])).isSome = true then decide (runB (asgF a) M (argB d 1) (R ++ [0]) = .fin) else true
structure RepB (M : Nat) (B : DT) (R : List Nat) (d : DT) : Prop where
  hx : (blocksB d)[0]? = some (argB d 1)
  good : goodR M (argB d 1) = true
  hat : ∀ v, atW B (R ++ [0] ++ v) = atW (argB d 1) v
  few : cntW M (argB d 1) ≤ cntW M B
theorem rep_of {M : Nat} {B d : DT} {R : List Nat} (hg : goodR M B = true) (hR : atW B R = some d) (c3 : headB d = "repeat") : RepB M B R d := by
  obtain ⟨hs, _, m, hm, hb, hw⟩ := at_deep hg hR
  have hx : (blocksB d)[0]? = some (argB d 1) := by rw [blocks_head c3]; rfl
  have gb := hb _ (List.mem_of_getElem? hx)
  refine ⟨hx, good_up (by omega) gb, fun v => at_app hR hs hx, ?_⟩
  rw [cnt_up (by omega) gb]
  have z3 : wtW (cntW m) d = 1 + ((blocksB d).map (cntW m)).sum := by unfold wtW; rw [if_pos hs]
  have z1 : cntW m (argB d 1) ≤ ((blocksB d).map (cntW m)).sum := sum_get (j := 0) (by rw [List.getElem?_map, hx]; rfl)
  omega
theorem res_pas {M : Nat} {B d : DT} {R : List Nat} {a : Asg} (hg : goodR M B = true) (hR : atW B R = some d) (c3 : headB d = "repeat") (A : AsgB M B a) :
    (atW B (R ++ [0] ++ [0]) = none ∧ resA M B a R d = true) ∨ ((atW B (R ++ [0] ++ [0])).isSome = true ∧ Pas B (asgF a) R (3 * cntW M B + 3) (R ++ [0] ++ [0]) (resA M B a R d)) := by
  have P := rep_of hg hR c3
  unfold resA
  cases e : atW B (R ++ [0] ++ [0]) with
  | none => exact .inl ⟨rfl, rfl⟩
  | some x =>
    refine .inr ⟨rfl, ?_⟩
    rw [if_pos (show (some x).isSome = true from rfl)]
    refine pas_repeat hR c3 (fun v _ => P.hat v) P.good (fun v e he hb => (A.at_ _ e ((P.hat v).trans he) hb).2) (fun z => ?_) (by have := P.few; omega)
    rw [P.hat [0]] at e
    have e : (listB (argB d 1))[0]? = some x := e
    rw [z] at e
    cases e
theorem rep_quiet {M : Nat} {B d : DT} {R : List Nat} (hg : goodR M B = true) (hM : M ≤ 12) (hR : atW B R = some d) (c3 : headB d = "repeat") : (∃ a ∈ chC (rowsW M B [] false) [[]], resA M B a R d = true) ↔ (quietW 12 (argB d 1)).1 = true := by
  have P := rep_of hg hR c3
  have pos := nb_pos hg
  have hatN : HatN (WayN B) (argB d 1) (R ++ [0]) := ⟨fun v e he hb => nb_at ((P.hat v).trans he) hb⟩
  rw [quiet_up hM (good_dep P.good)]
  have Qa := (quiet_all pos M (argB d 1) (R ++ [0]) P.good hatN).1
  cases e : atW B (R ++ [0] ++ [0]) with
  | none =>
    have el : listB (argB d 1) = [] := by
      rw [P.hat [0]] at e
      have e : (listB (argB d 1))[0]? = none := e
      cases z : listB (argB d 1) with
      | nil => rfl
      | cons x r => rw [z] at e; cases e
    have q1 : (quietW M (argB d 1)).1 = true := by
      cases M with
      | zero => cases hg
      | succ M =>
        show (quietL _ (listB (argB d 1)) false).1 = true
        rw [el]
        rfl
    obtain ⟨a, ha, _⟩ := asg_ex (c := fun _ => 0) hg pos
    refine ⟨fun _ => q1, fun _ => ⟨a, ha, ?_⟩⟩
    unfold resA
    rw [e]
    rfl
  | some x =>
    have un : ∀ a, resA M B a R d = decide (runB (asgF a) M (argB d 1) (R ++ [0]) = .fin) := fun a => by
      unfold resA
      rw [e]
      rfl
    refine Iff.trans ⟨fun ⟨a, ha, z⟩ => ?_, fun ⟨c, vc, z⟩ => ?_⟩ Qa.symm
    · rw [un] at z
      have z := of_decide_eq_true z
      have A := asg_of hg ha
      refine ⟨fun q => if asgF a q < WayN B q then asgF a q else 0, fun q => ?_, ?_⟩
      · show (if asgF a q < WayN B q then asgF a q else 0) < WayN B q
        split
        · assumption
        · exact pos q
      · rw [← z]
        refine (run_congr P.good (fun v e he hb => ?_) (fun v e he hb => (A.at_ _ e ((P.hat v).trans he) hb).2)).symm
        have hv := (P.hat v).trans he
        have := (A.at_ _ e hv hb).2
        show asgF a _ = if asgF a _ < WayN B _ then asgF a _ else 0
        rw [if_pos (by rw [nb_at hv hb]; exact this)]
    · obtain ⟨a, ha, hc⟩ := asg_ex hg vc
      refine ⟨a, ha, ?_⟩
      rw [un]
      refine decide_eq_true ?_
      rw [← z]
      have A := asg_of hg ha
      exact run_congr P.good (fun v e he hb => hc _ e ((P.hat v).trans he) hb) (fun v e he hb => (A.at_ _ e ((P.hat v).trans he) hb).2)
/-! ### the first repeat that doesn't deal -/
def repQ (r : WRow) : Bool := decide (headB r.2.1 = "repeat") && (quietW 12 (argB r.2.1 1)).1
def dueF (M : Nat) (B : DT) : Option (List Nat) := ((rowsW M B [] false).find? repQ).map (·.1)
theorem find_at {p : WRow → Bool} : ∀ {l : List WRow} {i : Nat} {r : WRow}, (∀ x ∈ l.take i, p x = false) → l[i]? = some r → p r = true → l.find? p = some r
  | [], _, _, _, h, _ => by cases h
  | x :: l, 0, r, _, h, hp => by
    obtain rfl := Option.some.inj (show some x = some r from h)
    exact List.find?_cons_of_pos hp
  | x :: l, i + 1, r, hx, h, hp => by
    rw [List.find?_cons_of_neg (by rw [hx x List.mem_cons_self]; decide)]
    exact find_at (fun y hy => hx y (List.mem_cons_of_mem _ hy)) h hp
theorem find_no {p : WRow → Bool} {l : List WRow} (h : ∀ x ∈ l, p x = false) : l.find? p = none := by
  rw [List.find?_eq_none]
  intro x hx z
  rw [h x hx] at z
  cases z
theorem mulR_take {rs : List WRow} (h : ∀ r ∈ rs, 1 ≤ wP r.2.1) (i : Nat) : mulR (rs.take i) ≤ mulR rs := by
  have e : mulR rs = mulR (rs.take i) * mulR (rs.drop i) := by
    unfold mulR
    rw [← mulL_append, ← List.map_append, List.take_append_drop]
  rw [e]
  refine Nat.le_mul_of_pos_right _ (mulL_pos fun x hx => ?_)
  obtain ⟨r, mr, rfl⟩ := List.mem_map.mp hx
  exact h r (List.mem_of_mem_drop mr)
theorem wP_pos {M : Nat} {B : DT} (hg : goodR M B = true) : ∀ r ∈ rowsW M B [] false, 1 ≤ wP r.2.1 := fun r hr => by
  unfold wP
  split
  · rename_i hb
    have := br_some (at_deep hg (rows_atB hr)).1 (of_decide_eq_true hb)
    omega
  · exact Nat.le_refl 1
theorem mulR_append (a b : List WRow) : mulR (a ++ b) = mulR a * mulR b := by
  unfold mulR
  rw [List.map_append, mulL_append]
theorem mulR_rows : ∀ {m : Nat} {b : DT} {path : List Nat} {lp : Bool}, goodR m b = true → mulR (rowsW m b path lp) = prodW m b
  | 0, _, _, _, h => by cases h
  | m + 1, b, path, lp, h => by
    obtain ⟨_, hi⟩ := good_parts h
    have kb : ∀ (cs : List DT) (here : List Nat) (lp : Bool) (j : Nat), (∀ c ∈ cs, goodR m c = true) → mulR (blocksW (rowsW m) here lp cs j) = mulL (cs.map (prodW m)) := fun cs => by
      induction cs with
      | nil => intros; rfl
      | cons c cs ih =>
        intro here lp j hc
        unfold blocksW
        rw [mulR_append, mulR_rows (hc c List.mem_cons_self), ih here lp (j + 1) fun x hx => hc x (List.mem_cons_of_mem _ hx)]
        rfl
    have ki : ∀ (ds : List DT) (i : Nat), (∀ d ∈ ds, stmtB d = true ∧ ∀ c ∈ blocksB d, goodR m c = true) → mulR (itemsW (rowsW m) path lp ds i) = mulL (ds.map (prodI (prodW m))) := fun ds => by
      induction ds with
      | nil => intros; rfl
      | cons d ds ih =>
        intro i hd
        have h1 := hd d List.mem_cons_self
        have e : itemsW (rowsW m) path lp (d :: ds) i = [(path ++ [i], d, lp)] ++ (inW (rowsW m) (path ++ [i]) lp d ++ itemsW (rowsW m) path lp ds (i + 1)) := rfl
        rw [e, mulR_append, mulR_append, ih (i + 1) fun x hx => hd x (List.mem_cons_of_mem _ hx)]
        unfold inW
        rw [if_pos h1.1, kb _ _ _ _ h1.2]
        show (wP d * 1) * (mulL ((blocksB d).map (prodW m)) * _) = (wP d * mulL ((blocksB d).map (prodW m))) * _
        rw [Nat.mul_one, Nat.mul_assoc]
    exact ki (listB b) 0 hi
end Oh
namespace Oh
open PySem PySem.Spec PyProof.Rows L2 PpSet
abbrev TabP (K : PySem.W.Frag) (H : Hp) (kvs : List (List L2.Key × V)) (rs : List WRow) : Prop := Paired (fun (kv : List L2.Key × V) (r : WRow) => kv.1 = keyP r.1 ∧ Rp K H kv.2 r.2.1) kvs rs
theorem tabp_none {K : PySem.W.Frag} {H : Hp} {w : List Nat} : ∀ {kvs : List (List L2.Key × V)} {rs : List WRow}, TabP K H kvs rs → (∀ r ∈ rs, r.1 ≠ w) → valV kvs (keyP w) = none
  | _, _, .nil, _ => rfl
  | _, _, .cons (b := r) h t, ne => (valV_neg (fun e => ne r List.mem_cons_self (keyP_inj (h.1.symm.trans e)))).trans (tabp_none t fun q hq => ne q (List.mem_cons_of_mem _ hq))
theorem tabp_some {K : PySem.W.Frag} {H : Hp} : ∀ {kvs : List (List L2.Key × V)} {rs : List WRow} {r : WRow}, TabP K H kvs rs → (rs.map (·.1)).Nodup → r ∈ rs → ∃ v, valV kvs (keyP r.1) = some v ∧ Rp K H v r.2.1
  | _, _, _, .nil, _, h => by cases h
  | _, _, r, .cons (a := kv) (b := r0) h t, nd, m => by
    obtain ⟨n1, n2⟩ := List.nodup_cons.mp (show (r0.1 :: _).Nodup from nd)
    rcases List.mem_cons.mp m with rfl | m
    · exact ⟨kv.2, valV_pos h.1, h.2⟩
    · obtain ⟨v, e, rv⟩ := tabp_some t n2 m
      refine ⟨v, (valV_neg (fun e2 => ?_)).trans e, rv⟩
      have := keyP_inj (h.1.symm.trans e2)
      exact n1 (List.mem_map.mpr ⟨r, m, this.symm⟩)
def spFst (K : PySem.W.Frag) (M : Nat) : Sp := fun vs H Q _ => ∃ v B, vs = [v] ∧ Rp K H v B ∧ goodR M B = true ∧ M ≤ 12 ∧ cntW M B ≤ 500 ∧ prodW M B ≤ 96 ∧ ∀ u H', Same H H' → PathOr H' u (dueF M B) → Q u H'
section
variable {P : Program} {w : World} {K : PySem.W.Frag} {mg : Str → Option Value} {base : Heap}
abbrev nFs : List Str := ["_law_block_here", "_law_rows", "_law_table", "_law_path", "_law_statement", "_law_choices_here", "_law_choice"]
theorem scFst : FnScope nFs ["_law_block_here"] (defScope lFirst) := ⟨rfl, rfl, rfl, by decide +kernel, rfl, by decide +kernel, by decide +kernel⟩
theorem ok_first4 {M : Nat} {f fL fC fP : Addr} {fd fdL fdC fdP : FuncData} (F : Fun K "_law_first" "_law_first" lFirst f fd) (hM3 : 3 ≤ M + 2)
    (GL : FnOk P w K mg base CX0 (M + 2) fL fdL p2l (spList K M)) (kL : PySem.W.keepIn K (.ref fL) = true) (bL : Binds K fdL p2l []) (mL : mg "_law_listed" = some (.ref fL))
    (GC : FnOk P w K mg base CX0 2 fC fdC ["_law_rows"] (spCho K)) (kC : PySem.W.keepIn K (.ref fC) = true) (bC : Binds K fdC ["_law_rows"] []) (mC : mg "_law_choices" = some (.ref fC))
    (GP : FnOk P w K mg base CX0 3 fP fdP p3s (spPas K)) (kP : PySem.W.keepIn K (.ref fP) = true) (bP : Binds K fdP p3s []) (mP : mg "_law_passes" = some (.ref fP)) :
    FnOk P w K mg base CX0 (M + 3) f fd ["_law_block_here"] (spFst K M) := by
  refine F.ok scFst (fun vs H Q E h => ?_) (fun cdv A outer s H vs Q E hr h => ?_)
  · obtain ⟨v, B, rfl, _⟩ := h
    rfl
  · obtain ⟨v, B, rfl, rb, hg, hM, few, hprod, k⟩ := h
    have hr2 : Room 2 _ := hr.mono (by omega)
    have hr3 : Room 3 _ := hr.mono hM3
    have hu := hu_of hr
    refine ⟨_, (pss_cons (ps_set (i := 1) scFst.nd rfl (Or.inl rfl) (pe_call GL hr (by rfl) mL kL bL .nil pass0 (pa_cons (pv 0) (pa_cons (pe_tup pa_nil) pa_nil))))
      (pss_cons (ps_set (i := 2) scFst.nd rfl (Or.inl rfl) pe_dnewT)
      (pss_cons (ps_for PassesOwn.never rfl (pi_list (pv 1)) (pg_tup rfl (pgs_cons (pg_name (i := 3) scFst.nd rfl (Or.inl rfl)) (pgs_cons (pg_name (i := 4) scFst.nd rfl (Or.inl rfl)) pgs_nil)))
        (pss_one (ps_dput hu (pv 2) (pv 3) (pv 4) rfl)))
      (pss_cons (ps_set (i := 5) scFst.nd rfl (Or.inl rfl) (pe_call GC hr2 (by rfl) mC kC bC .nil pass0 (pa_cons (pv 1) pa_nil)))
      (pss_cons (ps_for PassesOwn.never rfl (pi_list (pv 1)) (pg_tup rfl (pgs_cons (pg_name (i := 3) scFst.nd rfl (Or.inl rfl)) (pgs_cons (pg_name (i := 4) scFst.nd rfl (Or.inl rfl)) pgs_nil)))
        (pss_one (ps_if (pt_cmpR op_eq (pe_ix ix_tup (pv 4) pe_int (fun _ _ => rfl)) pe_str (nomark _))
          (pss_one (ps_for PassesOwn.never rfl (pi_list (pv 5)) (pg_name (i := 6) scFst.nd rfl (Or.inl rfl))
            (pss_one (ps_if (pt_val (pe_call GP hr3 (by rfl) mP kP bP .nil pass0 (pa_cons (pv 2) (pa_cons (pv 6) (pa_cons (pv 3) pa_nil)))))
              (pss_one (ps_ret (pv 3))) pss_nil)))) pss_nil)))
      (pss_one (ps_ret pe_non))))))), ?_⟩
    refine ⟨_, rfl, by show 0 ≤ sizeLine; decide, fun t nt => ?_⟩
    have s0 := Same.new (o := .tup []) nt
    have ht : upd H t (.tup []) t = some (.tup (pathV [])) := upd_same
    generalize upd H t (.tup []) = H0 at s0 ht ⊢
    refine ⟨v, B, t, [], false, rfl, rb.keep s0, hg, ht, by show 0 + 2 * M ≤ 100; omega, few, fun L xs H1 s1 nL hL ra => ?_⟩
    have s01 := s0.trans s1
    have lra := Paired.length ra
    have lrows : (rowsW M B [] false).length = cntW M B := rows_len
    have nd := rows_nodup (M := M) (B := B)
    intro D nD
    have hD : upd H1 D (.dT []) D = some (.dT []) := upd_same
    have hL2 : upd H1 D (.dT []) L = some (.lst xs) := (Same.new nD) _ _ hL
    refine ⟨_, rfl, L, rfl, ⟨_, SqL.of hL2⟩, for_it (walk_list (K := K) (a := L) (xs := xs)) (fun i σ H' => ∃ (kvs : List (List L2.Key × V)) (x3 x4 : Option V), σ = [some v, some (.ref L), some (.ref D), x3, x4, none, none] ∧ H' = upd H1 D (.dT kvs) ∧ TabP K H1 kvs ((rowsW M B [] false).take i))
      ⟨[], _, _, rfl, rfl, .nil⟩ (fun i σ H' _ ⟨_, _, _, _, e, _⟩ => by rw [e]; exact SqL.of (Same.new nD _ _ hL)) ?_ ?_⟩
    · rintro i x σ Ha Hb hi ⟨kvs, x3, x4, rfl, rfl, tp⟩ ⟨rfl, ex⟩
      have li : i < (rowsW M B [] false).length := by omega
      have er : (rowsW M B [] false)[i]? = some (rowsW M B [] false)[i] := List.getElem?_eq_getElem li
      have tk : (rowsW M B [] false).take (i + 1) = (rowsW M B [] false).take i ++ [(rowsW M B [] false)[i]] := by rw [List.take_add_one, er]; rfl
      have fresh : ∀ r ∈ (rowsW M B [] false).take i, r.1 ≠ (rowsW M B [] false)[i].1 := fun r hr e => by
        have e2 : (rowsW M B [] false).map (·.1) = ((rowsW M B [] false).take i).map (·.1) ++ (rowsW M B [] false)[i].1 :: ((rowsW M B [] false).drop (i + 1)).map (·.1) := by
          rw [← List.map_cons, ← List.map_append, ← List.drop_eq_getElem_cons li, List.take_append_drop]
        rw [e2, List.nodup_append] at nd
        exact nd.2.2 _ (List.mem_map_of_mem hr) _ List.mem_cons_self e
      obtain ⟨x', ex', R, T, vS, rfl, hR, hT, rS⟩ := ra.at_ er
      obtain rfl := Option.some.inj (ex'.symm.trans ex)
      have lk := Paired.length tp
      rw [List.length_take] at lk
      rw [tk]
      generalize (rowsW M B [] false)[i] = r at hT rS fresh
      have sD := Same.new (o := .dT kvs) nD
      refine ⟨R, _, rfl, SqT.of (sD _ _ hR), rfl, _, _, rfl, _, _, rfl, rfl, ?_⟩
      refine ⟨_, rfl, _, rfl, _, rfl, D, _, rfl, DPut.t upd_same (k := keyP r.1) (by rw [pathV_key]; exact sD _ _ hT) (small1000 (by omega)), ?_⟩
      rw [upd_upd, putK_new _ (tabp_none tp fresh)]
      exact ⟨_, _, _, rfl, rfl, paired_app tp (.cons ⟨rfl, rS⟩ .nil)⟩
    · rintro σ Ha ⟨kvs, x3, x4, rfl, rfl, tp⟩
      rw [List.take_of_length_le (by omega)] at tp
      have sD := Same.new (o := .dT kvs) nD
      have hDk : upd H1 D (.dT kvs) D = some (.dT kvs) := upd_same
      have hL3 := sD _ _ hL
      have ra3 := RowsA.keep sD ra
      have s2 := s01.trans sD
      have tab : TabT K (upd H1 D (.dT kvs)) D B (cntW M B) := ⟨kvs, hDk, by rw [Paired.length tp, lrows], fun w d hw => by
        obtain ⟨lp, hr⟩ := row_ex hg hw
        obtain ⟨v, e, rv⟩ := tabp_some tp nd hr
        exact ⟨(at_deep hg hw).1, v, e, rv.keep sD⟩, fun w hw => tabp_none tp fun r hr e => by
        have z := rows_atB hr
        rw [e, hw] at z
        cases z⟩
      generalize upd H1 D (.dT kvs) = H2 at hDk hL3 ra3 s2 tab ⊢
      refine ⟨_, rfl, L, xs, _, rfl, hL3, ra3, by omega, fun r hr => (at_deep hg (rows_atB hr)).1, nd, fun i => Nat.le_trans (mulR_take (wP_pos hg) i) (by rw [mulR_rows hg]; exact hprod), fun C ys H3 s3 hC hds => ?_⟩
      have s23 := s2.trans s3
      have tab3 := tab.keep s3
      have ra4 := RowsA.keep s3 ra3
      have lds := Paired.length hds
      refine ⟨_, rfl, L, rfl, ⟨_, SqL.of (s3 _ _ hL3)⟩, for_it (walk_list (K := K) (a := L) (xs := xs)) (fun i σ H' => ∃ (x3 x4 x6 : Option V), σ = [some v, some (.ref L), some (.ref D), x3, x4, some (.ref C), x6] ∧ Same H3 H' ∧ ∀ x ∈ (rowsW M B [] false).take i, repQ x = false)
        ⟨_, _, _, rfl, Same.refl _, fun x hx => by simp at hx⟩ (fun i σ H' _ ⟨_, _, _, _, s', _⟩ => SqL.of (s' _ _ (s3 _ _ hL3))) ?_ ?_⟩
      · rintro i x σ Ha Hb hi ⟨x3, x4, x6, rfl, sa, hno⟩ ⟨rfl, ex⟩
        have li : i < (rowsW M B [] false).length := by omega
        have er : (rowsW M B [] false)[i]? = some (rowsW M B [] false)[i] := List.getElem?_eq_getElem li
        have tk : (rowsW M B [] false).take (i + 1) = (rowsW M B [] false).take i ++ [(rowsW M B [] false)[i]] := by rw [List.take_add_one, er]; rfl
        obtain ⟨x', ex', R, T, vS, rfl, hR, hT, rS⟩ := (RowsA.keep sa ra4).at_ er
        obtain rfl := Option.some.inj (ex'.symm.trans ex)
        have hw := rows_atB (List.getElem_mem li)
        have found : repQ (rowsW M B [] false)[i] = true → dueF M B = some (rowsW M B [] false)[i].1 := fun z => by
          unfold dueF
          rw [find_at hno er z]
          rfl
        rw [tk]
        generalize (rowsW M B [] false)[i] = r at hT rS hw found
        have hs := (at_deep hg hw).1
        obtain ⟨pS, xS, rfl, hpS, hat⟩ := head_at rS hs
        have nxt : ∀ {H' : Hp}, Same H3 H' → repQ r = false → ∀ (x3 x4 x6 : Option V), ∃ (y3 y4 y6 : Option V), [some v, some (V.ref L), some (.ref D), x3, x4, some (.ref C), x6] = [some v, some (.ref L), some (.ref D), y3, y4, some (.ref C), y6] ∧ Same H3 H' ∧ ∀ x ∈ (rowsW M B [] false).take i ++ [r], repQ x = false := fun {H'} s z x3 x4 x6 => ⟨_, _, _, rfl, s, fun x hx => by
          rcases List.mem_append.mp hx with hx | hx
          · exact hno x hx
          · rw [List.mem_singleton.mp hx]
            exact z⟩
        refine ⟨R, _, rfl, SqT.of hR, rfl, _, _, rfl, _, _, rfl, rfl, ?_⟩
        refine ⟨_, rfl, pS, _, _, _, rfl, rfl, SqT.of hpS, hat, rfl, _, rfl, ite2 (fun c => ?_) (fun c => ?_)⟩
        · have c : headB r.2.1 = "repeat" := V.str.inj (of_decide_eq_true c)
          have rq := rep_quiet hg hM hw c
          have eq : repQ r = (quietW 12 (argB r.2.1 1)).1 := by unfold repQ; rw [decide_eq_true c, Bool.true_and]
          refine ⟨_, rfl, C, rfl, ⟨_, SqL.of (sa _ _ hC)⟩, for_it (walk_list (K := K) (a := C) (xs := ys)) (fun j σ H' => ∃ (x6 : Option V), σ = [some v, some (.ref L), some (.ref D), some (.ref T), some (.ref pS), some (.ref C), x6] ∧ Same Hb H' ∧ ∀ a ∈ (chC (rowsW M B [] false) [[]]).take j, resA M B a r.1 r.2.1 = false)
            ⟨_, rfl, Same.refl _, fun a ha => by simp at ha⟩ (fun i σ H' _ ⟨_, _, s', _⟩ => SqL.of (s' _ _ (sa _ _ hC))) ?_ ?_⟩
          · rintro j y σ Hc Hd hj ⟨x6, rfl, sc, hna⟩ ⟨rfl, ey⟩
            have lj : j < (chC (rowsW M B [] false) [[]]).length := by omega
            have ej : (chC (rowsW M B [] false) [[]])[j]? = some (chC (rowsW M B [] false) [[]])[j] := List.getElem?_eq_getElem lj
            have tkj : (chC (rowsW M B [] false) [[]]).take (j + 1) = (chC (rowsW M B [] false) [[]]).take j ++ [(chC (rowsW M B [] false) [[]])[j]] := by rw [List.take_add_one, ej]; rfl
            obtain ⟨Cd, eD, hCd⟩ := dicts_at (dicts_keep (sa.trans sc) hds) ej
            obtain rfl := Option.some.inj (eD.symm.trans ey)
            have ma := List.getElem_mem lj
            have A := asg_of hg ma
            rw [tkj]
            generalize (chC (rowsW M B [] false) [[]])[j] = a at hCd ma A
            have hT4 := sc _ _ hT
            refine ⟨_, rfl, _, rfl, _, rfl, D, Cd, T, B, asgF a, cntW M B, r.1, resA M B a r.1 r.2.1, rfl, tab3.keep (sa.trans sc), few, ⟨kvA a, hCd, fun w d hwd hb => ?_⟩, hT4, ?_, fun w d hwd => ?_, res_pas hg hw c A, fun H5 s5 => ⟨_, rfl, ?_⟩⟩
            · exact val_kvA A.nd (A.at_ w d hwd hb).1
            · have := (at_deep hg hw).2.1
              omega
            · have := (at_deep hg hwd).2.1
              omega
            cases z : resA M B a r.1 r.2.1 with
            | true =>
              have qt := rq.mp ⟨a, ma, z⟩
              rw [← eq] at qt
              refine iteT ⟨_, rfl, k _ H5 ((s23.trans (sa.trans sc)).trans s5) ?_⟩
              rw [found qt]
              exact ⟨T, rfl, s5 _ _ hT4⟩
            | false =>
              refine iteF ⟨_, rfl, sc.trans s5, fun a' ha' => ?_⟩
              rcases List.mem_append.mp ha' with ha' | ha'
              · exact hna a' ha'
              · rw [List.mem_singleton.mp ha']
                exact z
          · rintro σ Hc ⟨x6, rfl, sc, hna⟩
            rw [List.take_of_length_le (by omega)] at hna
            refine nxt (sa.trans sc) ?_ _ _ _
            cases z : repQ r with
            | false => rfl
            | true =>
              rw [eq] at z
              obtain ⟨a, ma, za⟩ := rq.mpr z
              rw [hna a ma] at za
              cases za
        · have c : headB r.2.1 ≠ "repeat" := fun y => c (decide_eq_true (congrArg V.str y))
          refine nxt sa ?_ _ _ _
          unfold repQ
          rw [decide_eq_false c, Bool.false_and]
      · rintro σ Ha ⟨x3, x4, x6, rfl, sa, hno⟩
        rw [List.take_of_length_le (by omega)] at hno
        refine k _ Ha (s23.trans sa) ?_
        unfold dueF
        rw [find_no hno]
        rfl
end
end Oh
namespace Oh
open PySem PySem.Spec PyProof.Rows L2 PpSet
structure Row4 (m : Nat) (lp : Bool) (x : DT) : Prop where
  ex : ∃ p b, x = .tup [.str p, .str "a", b] ∧ nameB (.str p) = true ∧ p ∈ S2c ∧ gen4 m lp b
def cntR4 (q : Nat) (x : DT) : Nat := cntW q (argB x 2)
def prdR4 (q : Nat) (x : DT) : Nat := prodW q (argB x 2)
theorem br_not {d : DT} {h : Str} (e : headB d = h) (h1 : h ≠ "if") (h2 : h ≠ "open") : brB d = false := by
  unfold brB
  rw [decide_eq_false]
  rw [e]
  exact fun z => z.elim h1 h2
theorem wP_no {d : DT} {h : Str} (e : headB d = h) (h1 : h ≠ "if") (h2 : h ≠ "open") : wP d = 1 := by
  unfold wP
  rw [br_not e h1 h2]
  rfl
theorem wP_if {e b c : DT} : wP (ifD e b c) = 2 := by
  unfold wP
  rw [if_pos (show brB (ifD e b c) = true from decide_eq_true (.inl rfl)), blocks_if]
  rfl
theorem wP_open {bs : List DT} : wP (openD bs) = bs.length := by
  unfold wP
  rw [if_pos (show brB (openD bs) = true from decide_eq_true (.inr rfl)), blocks_open]
theorem wt_of4 {d : DT} (h : stmtB d = true) (k : Nat) : wtW (cntW k) d = 1 + ((blocksB d).map (cntW k)).sum := by
  unfold wtW
  rw [if_pos h]
theorem itm_wait {m : Nat} {lp : Bool} {rs : List DT} (h1 : 1 ≤ rs.length) (h4 : rs.length ≤ 4) (hr : ∀ r ∈ rs, Row4 m lp r) (hn : (rs.map portB).Nodup) : Itm4 m lp (waitD rs) := by
  refine ⟨?_, ⟨fun k hk => ?_, fun k hk => ?_⟩, fun z => absurd z (ne_head (by decide)), fun x hx => ?_⟩
  · rw [stmt_wait, decide_eq_true hn, List.all_eq_true.mpr fun x hx => by
      obtain ⟨r, mr, rfl⟩ := List.mem_map.mp hx
      obtain ⟨p, b, rfl, h5, _, h6⟩ := (hr r mr).ex
      show (true && (nameB (.str p) && (nameB (.str "a") && blockB b))) = true
      rw [h5, n_a.1, gen4_block h6]
      rfl]
    show ((decide (1 ≤ rs.length) && decide (rs.length ≤ 4)) && _) = true
    rw [decide_eq_true h1, decide_eq_true h4]
    rfl
  · rw [names_wait] at hk
    obtain ⟨r, mr, rfl⟩ := List.mem_map.mp hk
    obtain ⟨p, b, rfl, _⟩ := (hr r mr).ex
    show (Str.ofString "a") ∈ S1c
    decide +kernel
  · have e : portsB (waitD rs) = rs.map portB := by unfold portsB; rw [if_neg (by intro z; rcases z with z | z <;> exact absurd z (ne_head (by decide))), if_pos (eq_head rfl)]; rfl
    rw [e] at hk
    obtain ⟨r, mr, rfl⟩ := List.mem_map.mp hk
    obtain ⟨p, b, rfl, _, h, _⟩ := (hr r mr).ex
    exact h
  · rw [blocks_wait] at hx
    rw [decide_eq_false (ne_head (h := "wait") (by decide)), Bool.or_false]
    obtain ⟨r, mr, rfl⟩ := List.mem_map.mp hx
    obtain ⟨p, b, rfl, _, _, h⟩ := (hr r mr).ex
    exact h
theorem itm_if {m : Nat} {lp : Bool} {i : Int} {b c : DT} (h0 : 0 ≤ i) (h1 : i ≤ 9) (hb : gen4 m lp b) (hc : gen4 m lp c) : Itm4 m lp (ifD (.int i) b c) := by
  refine ⟨by rw [stmt_if, expr_digit (digit_int h0 h1), gen4_block hb, gen4_block hc]; rfl, ⟨fun k hk => ?_, fun k hk => absurd (ports_no (d := ifD (.int i) b c) (h := "if") rfl (by decide) (by decide) (by decide) ▸ hk) (by simp)⟩, fun z => absurd z (ne_head (by decide)), fun x hx => ?_⟩
  · rw [names_if, namesX_digit (digit_int h0 h1)] at hk
    cases hk
  · rw [blocks_if] at hx
    rw [decide_eq_false (ne_head (h := "if") (by decide)), Bool.or_false]
    rcases List.mem_cons.mp hx with rfl | hx
    · exact hb
    · rw [List.mem_singleton.mp hx]
      exact hc
theorem itm_open {m : Nat} {lp : Bool} {bs : List DT} (h1 : 1 ≤ bs.length) (h4 : bs.length ≤ 4) (hb : ∀ b ∈ bs, gen4 m lp b) : Itm4 m lp (openD bs) := by
  refine ⟨?_, np_no4 (h := "open") rfl (by decide) (by decide) (by decide) (by decide) (by decide), fun z => absurd z (ne_head (by decide)), fun x hx => ?_⟩
  · rw [stmt_open, List.all_eq_true.mpr fun x hx => by
      obtain ⟨b, mb, rfl⟩ := List.mem_map.mp hx
      exact gen4_block (hb b mb)]
    show ((decide (1 ≤ bs.length) && decide (bs.length ≤ 4)) && _) = true
    rw [decide_eq_true h1, decide_eq_true h4]
    rfl
  · rw [blocks_open] at hx
    rw [decide_eq_false (ne_head (h := "open") (by decide)), Bool.or_false]
    exact hb x hx
theorem itm_rep {m : Nat} {lp : Bool} {b : DT} (hb : gen4 m true b) : Itm4 m lp (repD b) := by
  refine ⟨by rw [stmt_rep]; exact gen4_block hb, np_no4 (h := "repeat") rfl (by decide) (by decide) (by decide) (by decide) (by decide), fun z => absurd z (ne_head (by decide)), fun x hx => ?_⟩
  rw [blocks_rep] at hx
  rw [List.mem_singleton.mp hx, decide_eq_true (show headB (repD b) = "repeat" from rfl), Bool.or_true]
  exact hb
theorem gen_sn {m : Nat} {lp : Bool} {l : List DT} {t : DT} (h : gen4 (m + 1) lp (.tup l)) (hl : l.length ≤ 11) (ht : Smp4 lp t) : gen4 (m + 1) lp (.tup (l ++ [t])) :=
  ⟨decide_eq_true (by rw [List.length_append]; show l.length + 1 ≤ 12; omega), mem_sn h.2 (ht.itm m)⟩
theorem cnt_sn {q : Nat} {l : List DT} {lp : Bool} {t : DT} (ht : Smp4 lp t) : cntW q (.tup (l ++ [t])) ≤ cntW q (.tup l) + 1 := by
  cases q with
  | zero => exact Nat.zero_le _
  | succ q =>
    show ((l ++ [t]).map (wtW (cntW q))).sum ≤ (l.map (wtW (cntW q))).sum + 1
    rw [List.map_append, List.sum_append]
    show _ + (wtW (cntW q) t + 0) ≤ _
    rw [ht.wt]
    omega
theorem prod_sn {q : Nat} {l : List DT} {lp : Bool} {t : DT} (ht : Smp4 lp t) : prodW q (.tup (l ++ [t])) = prodW q (.tup l) := by
  cases q with
  | zero => rfl
  | succ q =>
    show mulL ((l ++ [t]).map (prodI (prodW q))) = mulL (l.map (prodI (prodW q)))
    rw [List.map_append, mulL_append]
    show _ * (prodI (prodW q) t * 1) = _
    rw [ht.pr]
    simp only [Nat.mul_one]
theorem cat4 {K : PySem.W.Frag} {H : Hp} {Q : VK} {p q : Addr} {xs ys : List V} {la lb : List DT} (hp : H p = some (.tup xs)) (hq : H q = some (.tup ys)) (ra : RpAll K H xs la) (rb : RpAll K H ys lb) (hl : la.length + lb.length ≤ 1000) (k : ∀ v H', Same H H' → Rp K H' v (.tup (la ++ lb)) → Q v H') : rCatA K (.ref p) (.ref q) H Q := by
  have l1 := ra.len
  have l2 := rb.len
  refine ⟨p, q, xs, ys, rfl, rfl, SqT.of hp, SqT.of hq, small9 (by omega), fun z => ?_, fun _ z => ?_, fun _ _ r nr => ?_⟩
  · subst z
    have : la = [] := List.eq_nil_of_length_eq_zero l1.symm
    subst this
    exact k _ H (Same.refl H) (.tup hq rb)
  · subst z
    have : lb = [] := List.eq_nil_of_length_eq_zero l2.symm
    subst this
    rw [List.append_nil] at k
    exact k _ H (Same.refl H) (.tup hp ra)
  · exact k _ _ (Same.new nr) (.tup upd_same ((ra.append rb).keep (Same.new nr)))
theorem pqr_nodup : ∀ i, i ≤ 3 → (S2c.take i).Nodup := by decide +kernel
section
variable {P : Program} {w : World} {K : PySem.W.Frag} {mg : Str → Option Value} {base : Heap}
abbrev nBr4 : List Str := ["_law_source_here", "_law_room", "_law_depth", "_law_looped", "_law_kind", "_law_many", "_law_first_here", "_law_block_here", "_law_k"]
theorem scBr4 : FnScope nBr4 p4b (defScope lBranching) := ⟨rfl, rfl, rfl, by decide +kernel, rfl, by decide +kernel, by decide +kernel⟩
theorem br4_step {m j : Nat} {f fD fB : Addr} {fd fdD fdB : FuncData} (F : Fun K "_law_branching" "_law_branching" lBranching f fd) (T : TxtO mg) (hj : 3 ≤ j)
    (GD : FnOk P w K mg base CX0 2 fD fdD ["_law_source_here", "_law_many"] spDraw) (kD : PySem.W.keepIn K (.ref fD) = true) (bD : Binds K fdD ["_law_source_here", "_law_many"] []) (mD : mg "_law_draw" = some (.ref fD))
    (GB : FnOk P w K mg base CX0 j fB fdB p4b (spBlk4 K m)) (kB : PySem.W.keepIn K (.ref fB) = true) (bB : Binds K fdB p4b []) (mB : mg "_law_block" = some (.ref fB)) :
    FnOk P w K mg base CX0 (j + 1) f fd p4b (spBr4 K m) := by
  refine F.ok scBr4 (fun vs H Q E h => ?_) (fun cdv A outer s H vs Q E hr h => ?_)
  · obtain ⟨a, c, r, n, k, lp, rfl, _⟩ := h
    rfl
  · obtain ⟨a, c, r, n, k0, lp, rfl, R, hn, hk1, hk9, k⟩ := h
    have hr2 : Room 2 _ := hr.mono (by omega)
    refine ⟨_, (pss_cons (ps_set (i := 4) scBr4.nd rfl (Or.inl rfl) (pe_call GD hr2 (by rfl) mD kD bD .nil pass0 (pa_cons (pv 0) (pa_cons pe_int pa_nil))))
      (pss_cons (ps_set (i := 5) scBr4.nd rfl (Or.inl rfl) (pe_op op_add pe_int (pe_call GD hr2 (by rfl) mD kD bD .nil pass0 (pa_cons (pv 0) (pa_cons pe_int pa_nil)))))
      (pss_cons (ps_if (pt_cmpR op_eq (pv 4) pe_int (nomark _))
        (pss_one (ps_ret (pe_tup (pa_cons pe_str (pa_cons (pe_callTy call_tuple_of (by rfl) T.tuple (by decide +kernel) (pa_cons (pe_lc (own := [("_law_k", 8)]) (g := gName 8) (tt := tYes) (te := tTup (tCons (tOp rIxS (tC (.str "pqr")) (tVar 8)) (tCons (tC (.str "a")) (tCons (tCall (spBlk4 K m) [] E0 (tCons (tVar 0) (tCons (tVar 1) (tCons (tVar 2) (tCons (tVar 3) tNil))))) tNil)))) rfl scBr4.nd (pi_range1 (by rfl) T.range (pa_cons (pv 5) pa_nil)) (blkOk_by (N := nBr4) (sc := defScope lBranching) (by decide +kernel)) (fun _ _ _ _ _ => pg_name (i := 8) scBr4.nd rfl (Or.inl rfl)) (fun _ _ _ _ _ => pts_nil) (fun _ _ _ _ _ => by exact (pe_tup (pa_cons (pe_ix ix_str pe_str (pv 8) (fun _ _ => rfl)) (pa_cons pe_str (pa_cons (pe_call GB hr (by rfl) mB kB bB .nil pass0 (pa_cons (pv 0) (pa_cons (pv 1) (pa_cons (pv 2) (pa_cons (pv 3) pa_nil))))) pa_nil)))))) pa_nil)) pa_nil))))) pss_nil)
      (pss_cons (ps_if (pw_and (pt_cmpR op_eq (pv 4) pe_int (nomark _)) (pw_and1 (pt_cmpR op_le (pe_op op_mul (pe_ix ix_list (pv 1) pe_int (fun _ _ => rfl)) pe_int) pe_int (nomark _)))).pt
        (pss_cons (ps_asg (pe_op op_mul (pe_ix ix_list (pv 1) pe_int (fun _ _ => rfl)) pe_int) (pg_sub (pv 1) pe_int set_list))
        (pss_cons (ps_set (i := 6) scBr4.nd rfl (Or.inl rfl) (pe_call GB hr (by rfl) mB kB bB .nil pass0 (pa_cons (pv 0) (pa_cons (pv 1) (pa_cons (pv 2) (pa_cons (pv 3) pa_nil))))))
        (pss_one (ps_ret (pe_tup (pa_cons pe_str (pa_cons (pe_call GD hr2 (by rfl) mD kD bD .nil pass0 (pa_cons (pv 0) (pa_cons pe_int pa_nil))) (pa_cons (pv 6) (pa_cons (pe_call GB hr (by rfl) mB kB bB .nil pass0 (pa_cons (pv 0) (pa_cons (pv 1) (pa_cons (pv 2) (pa_cons (pv 3) pa_nil))))) pa_nil))))))))) pss_nil)
      (pss_cons (ps_if (pw_and (pt_cmpR op_eq (pv 4) pe_int (nomark _)) (pw_and1 (pt_cmpR op_le (pe_op op_mul (pe_ix ix_list (pv 1) pe_int (fun _ _ => rfl)) (pv 5)) pe_int (nomark _)))).pt
        (pss_cons (ps_asg (pe_op op_mul (pe_ix ix_list (pv 1) pe_int (fun _ _ => rfl)) (pv 5)) (pg_sub (pv 1) pe_int set_list))
        (pss_one (ps_ret (pe_tup (pa_cons pe_str (pa_cons (pe_callTy call_tuple_of (by rfl) T.tuple (by decide +kernel) (pa_cons (pe_lc (own := [("_law_k", 8)]) (g := gName 8) (tt := tYes) (te := tCall (spBlk4 K m) [] E0 (tCons (tVar 0) (tCons (tVar 1) (tCons (tVar 2) (tCons (tVar 3) tNil))))) rfl scBr4.nd (pi_range1 (by rfl) T.range (pa_cons (pv 5) pa_nil)) (blkOk_by (N := nBr4) (sc := defScope lBranching) (by decide +kernel)) (fun _ _ _ _ _ => pg_name (i := 8) scBr4.nd rfl (Or.inl rfl)) (fun _ _ _ _ _ => pts_nil) (fun _ _ _ _ _ => by exact (pe_call GB hr (by rfl) mB kB bB .nil pass0 (pa_cons (pv 0) (pa_cons (pv 1) (pa_cons (pv 2) (pa_cons (pv 3) pa_nil))))))) pa_nil)) pa_nil)))))) pss_nil)
      (pss_cons (ps_set (i := 7) scBr4.nd rfl (Or.inl rfl) (pe_call GB hr (by rfl) mB kB bB .nil pass0 (pa_cons (pv 0) (pa_cons (pv 1) (pa_cons (pv 2) (pa_cons pe_bl pa_nil))))))
      (pss_cons (ps_if (pt_cmpR op_eq (pe_call GD hr2 (by rfl) mD kD bD .nil pass0 (pa_cons (pv 0) (pa_cons pe_int pa_nil))) pe_int (nomark _))
        (pss_one (ps_set (i := 7) scBr4.nd rfl (Or.inl rfl) (pe_op op_catA (pv 7) (pe_tup (pa_cons (pe_tup (pa_cons pe_str (pa_cons pe_str (pa_cons pe_int pa_nil)))) pa_nil))))) pss_nil)
      (pss_one (ps_ret (pe_tup (pa_cons pe_str (pa_cons (pv 7) pa_nil)))))))))))), ?_⟩
    refine ⟨_, rfl, a, c, 6, rfl, R.src, by decide, log2_small (by decide) (by decide), fun g H1 g0 g1 S1' K1 => ?_⟩
    refine ⟨_, rfl, a, c, 3, rfl, S1', by decide, log2_small (by decide) (by decide), fun e H2 e0 e1 S2' K2 => ?_⟩
    have d2 : Drw a c H H2 := Drw.trans ⟨K1, S1'⟩ ⟨K2, S2'⟩
    have R2 := R.drw d2
    have D2 : Dr4 a c r H H2 := Dr4.of_drw d2
    refine ⟨_, _, rfl, rfl, ?_⟩
    refine ⟨_, rfl, rfl, _, rfl, ite2 (fun _ => ?_) (fun _ => ?_)⟩
    · -- a wait
      refine ⟨_, rfl, _, rfl, by omega, by omega, fun D hD => lc_range (lo := 0) (n := (1 + e).toNat) (fun i H' => ∃ (n1 k1 : Nat) (xs : List V) (rs : List DT), H' D = some (.lst xs) ∧ RpAll K H' xs rs ∧ rs.length = i ∧ (∀ x ∈ rs, Row4 (m + 1) lp x) ∧ rs.map portB = S2c.take i ∧
          (∀ q, (rs.map (cntR4 q)).sum + 2 * n1 ≤ 2 * n) ∧ (∀ q, mulL (rs.map (prdR4 q)) * k0 ≤ k1) ∧ 1 ≤ k1 ∧ k1 ≤ 96 ∧ Rm4 H' a c r n1 k1 ∧ Dr4 a c r H H')
        ⟨n, k0, [], [], upd_same, .nil, rfl, (fun d hd => by cases hd), rfl, (fun q => (by show 0 + 2 * n ≤ 2 * n; omega)), (fun q => by show 1 * k0 ≤ k0; omega), hk1, hk9, R2.same (Same.new hD), D2.trans (Dr4.of_same (Same.new hD))⟩ ?_ ?_⟩
      · rintro i H3 hi ⟨n1, k1, xs, rs, h1, ra, ld, hd, hpr, hc, hp, hk1', hk9', R3, D3⟩
        obtain ⟨Da, Dc, Dr⟩ := R2.fresh hD
        have ez : (0 : Int) + (i : Int) = (i : Int) := by omega
        obtain ⟨ch, p1, p2, p3, p4⟩ := pqr3 i (by omega)
        refine ⟨rfl, _, rfl, _, _, _, rfl, rfl, by decide +kernel, (by rw [ez]; exact atI_nat p1), _, rfl, _, rfl, _, rfl, _, rfl, a, c, r, n1, k1, lp, rfl, R3, ?_, hk1', hk9', fun v l H4 n4 k4 r4 g4 _ c4 q4 h14 h94 R4 D4 => ⟨by show 3 ≤ sizeLine; decide, fun t nt => ?_⟩⟩
        · have := hc 0
          omega
        have s5 := Same.new (o := .tup [.str ⟨#[ch]⟩, .str "a", v]) nt
        have hD5 := s5 _ _ (D4 _ _ h1 Da Dc Dr)
        have rt : Rp K (upd H4 t (.tup [.str ⟨#[ch]⟩, .str "a", v])) (.ref t) (.tup [.str ⟨#[ch]⟩, .str "a", .tup l]) := .tup upd_same (.cons (.str (by show 1 ≤ 1000; decide)) (.cons (.str (by decide +kernel)) (.cons (r4.keep s5) .nil)))
        refine ⟨xs, hD5, small1000 (by rw [ra.len]; omega), n4, k4, xs ++ [.ref t], rs ++ [.tup [.str ⟨#[ch]⟩, .str "a", .tup l]], upd_same, (rp_sn ((RpAll.dr4 R3 R4 D4 ra).keep s5) rt).updL hD5, by rw [List.length_append, ld]; rfl, mem_sn hd ⟨_, _, rfl, p4, p3, g4⟩, ?_, fun q => ?_, fun q => ?_, h14, h94, (R4.same s5).updL Da Dc Dr, fun b' o hb na nc nr => ?_⟩
        · rw [List.map_append, hpr, List.take_add_one, p2]
          rfl
        · rw [List.map_append, List.sum_append]
          show _ + (cntW q (.tup l) + 0) + _ ≤ _
          have := hc q
          have := c4 q
          omega
        · rw [List.map_append, mulL_append]
          show mulL _ * (prodW q (.tup l) * 1) * k0 ≤ k4
          rw [Nat.mul_one]
          exact mul_step (hp q) (q4 q)
        · rw [upd_ne (ne_of_none (d2.k _ _ hb na nc) hD)]
          exact s5 _ _ (D4 b' o (D3 b' o hb na nc nr) na nc nr)
      · rintro H3 ⟨n1, k1, xs, rs, h1, ra, ld, hd, hpr, hc, hp, hk1', hk9', R3, D3⟩
        refine ⟨D, xs, rfl, .inl ⟨SqL.of h1, fun u nu => ⟨by show 2 ≤ sizeLine; decide, fun q nq => ?_⟩⟩⟩
        have s3 := Same.new (o := .tup xs) nu
        have s4 := Same.new (o := .tup [.str "wait", .ref u]) nq
        have ig := itm_wait (m := m + 1) (lp := lp) (rs := rs) (by omega) (by omega) hd (by rw [hpr]; exact pqr_nodup _ (by omega))
        refine k _ (waitD rs) _ n1 k1 (.tup upd_same (.cons (.str (by decide +kernel)) (.cons ((Rp.tup upd_same (ra.keep s3)).keep s4) .nil))) ig (fun q => ?_) (fun q => ?_) hk1' hk9' (R3.same (s3.trans s4)) (D3.trans (Dr4.of_same (s3.trans s4)))
        · rw [wt_of4 ig.1, blocks_wait, List.map_map]
          have := hc q
          have e : (rs.map (cntW q ∘ fun r => argB r 2)).sum = (rs.map (cntR4 q)).sum := rfl
          omega
        · unfold prodI
          rw [wP_no (h := "wait") rfl (by decide) (by decide), blocks_wait, List.map_map, Nat.one_mul]
          exact hp q
    have bk : (k0 : Int) ≤ 96 := by omega
    refine ⟨_, rfl, rfl, _, rfl, ite2 (fun _ => ⟨_, rfl, r, _, _, _, rfl, rfl, SqL.of R2.at_, at_of (j := 1) rfl rfl, _, _, rfl, rfl, .inl ⟨by omega, by omega⟩, _, _, rfl, rfl, _, rfl, ite2 (fun z => ?ifc) (fun _ => ?n1)⟩) (fun _ => iteF ?n2)⟩
    case ifc =>
      have z := of_decide_eq_true z
      have z2 : k0 * 2 ≤ 96 := by
        have z : (k0 : Int) * 2 ≤ 96 := z
        omega
      refine ⟨_, rfl, r, _, _, _, rfl, rfl, SqL.of R2.at_, at_of (j := 1) rfl rfl, _, _, rfl, rfl, .inl ⟨by omega, by omega⟩, _, rfl, r, _, _, 1, rfl, rfl, R2.at_, rfl, ?_⟩
      have eH : (upd H2 r (HO.lst ([V.int (n : Int), V.int (k0 : Int)].set 1 ((fun i j => V.int (i * j)) (k0 : Int) 2)))) = upd H2 r (.lst [.int (n : Int), .int ((k0 * 2 : Nat) : Int)]) := by
        show upd H2 r (.lst [.int (n : Int), .int ((k0 : Int) * 2)]) = _
        rw [show ((k0 : Int) * 2) = ((k0 * 2 : Nat) : Int) by omega]
      rw [eH]
      obtain ⟨R3, D3⟩ := R2.put (n' := n) (k' := k0 * 2)
      generalize upd H2 r (.lst [.int (n : Int), .int ((k0 * 2 : Nat) : Int)]) = H3 at R3 D3 ⊢
      refine ⟨_, rfl, _, rfl, _, rfl, _, rfl, a, c, r, n, k0 * 2, lp, rfl, R3, hn, by omega, z2, fun v l H4 n4 k4 r4 g4 _ c4 q4 h14 h94 R4 D4 => ?_⟩
      refine ⟨_, rfl, a, c, 2, rfl, R4.src, by decide, log2_small (by decide) (by decide), fun ei H5 e50 e51 S5 K5 => ?_⟩
      have d5 : Drw a c H4 H5 := ⟨K5, S5⟩
      have R5 := R4.drw d5
      refine ⟨_, rfl, _, rfl, _, rfl, _, rfl, _, rfl, a, c, r, n4, k4, lp, rfl, R5, ?_, h14, h94, fun v6 l6 H6 n6 k6 r6 g6 _ c6 q6 h16 h96 R6 D6 => ⟨by show 4 ≤ sizeLine; decide, fun q nq => ?_⟩⟩
      · have := c4 0
        omega
      have s7 := Same.new (o := .tup [.str "if", .int ei, v, v6]) nq
      have ig := itm_if (lp := lp) e50 (by omega) g4 g6
      refine k _ (ifD (.int ei) (.tup l) (.tup l6)) _ n6 k6 (.tup upd_same (.cons (.str (by decide +kernel)) (.cons (.int _) (.cons ((Rp.dr4 R5 R6 D6 (Rp.drw R4.src d5 r4)).keep s7) (.cons (r6.keep s7) .nil))))) ig (fun q => ?_) (fun q => ?_) h16 h96 (R6.same s7) (D2.trans (D3.trans (D4.trans ((Dr4.of_drw d5).trans (D6.trans (Dr4.of_same s7))))))
      · rw [wt_of4 ig.1, blocks_if]
        show 1 + (cntW q (.tup l) + (cntW q (.tup l6) + 0)) + _ ≤ _
        have := c4 q
        have := c6 q
        omega
      · unfold prodI
        rw [wP_if, blocks_if]
        show 2 * (prodW q (.tup l) * (prodW q (.tup l6) * 1)) * k0 ≤ k6
        have z := mul_step (q4 q) (q6 q)
        have e : 2 * (prodW q (.tup l) * (prodW q (.tup l6) * 1)) * k0 = prodW q (.tup l) * prodW q (.tup l6) * (k0 * 2) := by rw [Nat.mul_one]; ac_rfl
        rw [e]
        exact z
    all_goals
      refine ⟨_, rfl, rfl, _, rfl, ite2 (fun _ => ⟨_, rfl, r, _, _, _, rfl, rfl, SqL.of R2.at_, at_of (j := 1) rfl rfl, _, rfl, _, _, rfl, rfl, .inl ⟨by omega, by omega⟩, _, _, rfl, rfl, _, rfl, ite2 (fun z => ?_) (fun _ => ?_)⟩) (fun _ => iteF ?_)⟩
      · obtain ⟨N, eN⟩ : ∃ N : Nat, (1 : Int) + e = (N : Int) := ⟨(1 + e).toNat, by omega⟩
        have z := of_decide_eq_true z
        have z2 : k0 * N ≤ 96 := by
          have z : (k0 : Int) * (1 + e) ≤ 96 := z
          rw [eN] at z
          exact_mod_cast z
        have hN : 1 ≤ N ∧ N ≤ 3 := by omega
        refine ⟨_, rfl, r, _, _, _, rfl, rfl, SqL.of R2.at_, at_of (j := 1) rfl rfl, _, rfl, _, _, rfl, rfl, .inl ⟨by omega, by omega⟩, _, rfl, r, _, _, 1, rfl, rfl, R2.at_, rfl, ?_⟩
        generalize hX : upd H2 r (HO.lst _) = HX
        have eX : HX = upd H2 r (.lst [.int (n : Int), .int ((k0 * N : Nat) : Int)]) := by
          rw [← hX]
          show upd H2 r (.lst [.int (n : Int), .int ((k0 : Int) * (1 + e))]) = _
          rw [eN, show ((k0 : Int) * (N : Int)) = ((k0 * N : Nat) : Int) by rw [Int.natCast_mul]]
        obtain ⟨R3, D3⟩ := R2.put (n' := n) (k' := k0 * N)
        rw [← eX] at R3 D3
        clear eX hX
        have kp : 1 ≤ k0 * N := Nat.mul_pos hk1 hN.1
        have D23 := D2.trans D3
        refine ⟨_, rfl, (N : Int), congrArg (fun z => [V.int z]) eN, by omega, by omega, fun D hD => lc_range (lo := 0) (n := N) (fun i H' => ∃ (n1 k1 : Nat) (xs : List V) (ds : List DT), H' D = some (.lst xs) ∧ RpAll K H' xs ds ∧ ds.length = i ∧ (∀ d ∈ ds, gen4 (m + 1) lp d) ∧ (∀ q, (ds.map (cntW q)).sum + 2 * n1 ≤ 2 * n) ∧ (∀ q, mulL (ds.map (prodW q)) * (k0 * N) ≤ k1) ∧ 1 ≤ k1 ∧ k1 ≤ 96 ∧ Rm4 H' a c r n1 k1 ∧ Dr4 a c r HX H')
          ⟨n, k0 * N, [], [], upd_same, .nil, rfl, (fun d hd => by cases hd), (fun q => (by show 0 + 2 * n ≤ 2 * n; omega)), (fun q => by show 1 * (k0 * N) ≤ k0 * N; omega), kp, z2, R3.same (Same.new hD), Dr4.of_same (Same.new hD)⟩ ?_ ?_⟩
        · rintro i H4 hi ⟨n1, k1, xs, ds, h1, ra, ld, hd, hc, hp, hk1', hk9', R4, D4⟩
          obtain ⟨Da, Dc, Dr⟩ := R3.fresh hD
          refine ⟨rfl, _, rfl, _, rfl, _, rfl, _, rfl, a, c, r, n1, k1, lp, rfl, R4, ?_, hk1', hk9', fun v l H5 n5 k5 r5 g5 _ c5 q5 h15 h95 R5 D5 => ?_⟩
          · have := hc 0
            omega
          have hD5 := D5 _ _ h1 Da Dc Dr
          refine ⟨xs, hD5, small1000 (by rw [ra.len]; omega), n5, k5, xs ++ [v], ds ++ [.tup l], upd_same, (rp_sn (RpAll.dr4 R4 R5 D5 ra) r5).updL hD5, by rw [List.length_append, ld]; rfl, mem_sn hd g5, fun q => ?_, fun q => ?_, h15, h95, R5.updL Da Dc Dr, fun b' o hb na nc nr => ?_⟩
          · rw [List.map_append, List.sum_append]
            show _ + (cntW q (.tup l) + 0) + _ ≤ _
            have := hc q
            have := c5 q
            omega
          · rw [List.map_append, mulL_append]
            show mulL _ * (prodW q (.tup l) * 1) * (k0 * N) ≤ k5
            rw [Nat.mul_one]
            exact mul_step (hp q) (q5 q)
          · rw [upd_ne (ne_of_none hb hD)]
            exact D5 b' o (D4 b' o hb na nc nr) na nc nr
        · rintro H4 ⟨n1, k1, xs, ds, h1, ra, ld, hd, hc, hp, hk1', hk9', R4, D4⟩
          refine ⟨D, xs, rfl, .inl ⟨SqL.of h1, fun u nu => ⟨by show 2 ≤ sizeLine; decide, fun q nq => ?_⟩⟩⟩
          have s3 := Same.new (o := .tup xs) nu
          have s4 := Same.new (o := .tup [.str "open", .ref u]) nq
          have ig := itm_open (m := m + 1) (lp := lp) (bs := ds) (by omega) (by omega) hd
          refine k _ (openD ds) _ n1 k1 (.tup upd_same (.cons (.str (by decide +kernel)) (.cons ((Rp.tup upd_same (ra.keep s3)).keep s4) .nil))) ig (fun q => ?_) (fun q => ?_) hk1' hk9' (R4.same (s3.trans s4)) (D23.trans (D4.trans (Dr4.of_same (s3.trans s4))))
          · rw [wt_of4 ig.1, blocks_open]
            have := hc q
            omega
          · unfold prodI
            rw [wP_open, blocks_open, ld]
            have e1 : N * mulL (ds.map (prodW q)) * k0 = mulL (ds.map (prodW q)) * (k0 * N) := by ac_rfl
            rw [e1]
            exact hp q
      all_goals
        have fin : ∀ (u : V) (l' : List DT) (H' : Hp) (n' k' : Nat), Rp K H' u (.tup l') → gen4 (m + 1) true (.tup l') → (∀ q, cntW q (.tup l') + 2 * n' ≤ 1 + 2 * n) → (∀ q, prodW q (.tup l') * k0 ≤ k') → 1 ≤ k' → k' ≤ 96 → Rm4 H' a c r n' k' → Dr4 a c r H H' → ∀ w, H' w = none → Q (.ref w) (upd H' w (.tup [.str "repeat", u])) := fun u l' H' n' k' ru gu cu pu h1 h9 Ru Du w nw => by
          have s4 := Same.new (o := .tup [.str "repeat", u]) nw
          have ig := itm_rep (lp := lp) gu
          refine k _ (repD (.tup l')) _ n' k' (.tup upd_same (.cons (.str (by decide +kernel)) (.cons (ru.keep s4) .nil))) ig (fun q => ?_) (fun q => ?_) h1 h9 (Ru.same s4) (Du.trans (Dr4.of_same s4))
          · rw [wt_of4 ig.1, blocks_rep]
            show 1 + (cntW q (.tup l') + 0) + _ ≤ _
            have := cu q
            omega
          · unfold prodI
            rw [wP_no (h := "repeat") rfl (by decide) (by decide), blocks_rep]
            show 1 * (prodW q (.tup l') * 1) * k0 ≤ k'
            rw [Nat.mul_one, Nat.one_mul]
            exact pu q
        refine ⟨_, rfl, _, rfl, _, rfl, a, c, r, n, k0, true, rfl, R2, hn, hk1, hk9, fun v lb H3 n3 k3 r3 g3 b3 c3 q3 h13 h93 R3 D3 => ?_⟩
        refine ⟨_, rfl, a, c, 3, rfl, R3.src, by decide, log2_small (by decide) (by decide), fun e4 H4 e40 e41 S4 K4 => ?_⟩
        have d4 : Drw a c H3 H4 := ⟨K4, S4⟩
        have R4 := R3.drw d4
        have r4 := Rp.drw R3.src d4 r3
        have D4 := D2.trans (D3.trans (Dr4.of_drw d4))
        refine ⟨rfl, _, rfl, ite2 (fun _ => ?_) (fun _ => ?_)⟩
        · refine ⟨_, rfl, by show 3 ≤ sizeLine; decide, fun t nt => ⟨by show 1 ≤ sizeLine; decide, fun t2 nt2 => ?_⟩⟩
          have s5 := Same.new (o := .tup [.str "tell", .str "p", .int 1]) nt
          have s6 := Same.new (o := .tup [.ref t]) nt2
          have ht := s6 _ _ (upd_same (H := H4) (a := t) (o := .tup [.str "tell", .str "p", .int 1]))
          have ht2 : upd (upd H4 t (.tup [.str "tell", .str "p", .int 1])) t2 (.tup [.ref t]) t2 = some (.tup [.ref t]) := upd_same
          have s56 := s5.trans s6
          generalize upd (upd H4 t (.tup [.str "tell", .str "p", .int 1])) t2 (.tup [.ref t]) = H5 at ht ht2 s56 ⊢
          have rt : RpAll K H5 [.ref t] [tellD "p" (.int 1)] := .cons (.tup ht (.cons (.str (by decide +kernel)) (.cons (.str (by decide +kernel)) (.cons (.int _) .nil)))) .nil
          obtain ⟨pb, xb, rfl, hpb, rab⟩ := (r4.keep s56).tup_inv
          have st := smp_tell (lp := true) (i := 1) (by decide) (by decide)
          refine cat4 hpb ht2 rab rt (by show lb.length + 1 ≤ 1000; omega) fun u H6 s7 ru => ⟨_, rfl, by show 2 ≤ sizeLine; decide, fun w nw => fin u _ H6 n3 k3 ru (gen_sn g3 (by omega) st) (fun q => ?_) (fun q => by rw [prod_sn st]; exact q3 q) h13 h93 (R4.same (s56.trans s7)) (D4.trans (Dr4.of_same (s56.trans s7))) w nw⟩
          have := cnt_sn (q := q) (l := lb) st
          have := c3 q
          omega
        · exact ⟨_, rfl, by show 2 ≤ sizeLine; decide, fun w nw => fin v lb H4 n3 k3 r4 g3 (fun q => by have := c3 q; omega) q3 h13 h93 R4 D4 w nw⟩
end
end Oh
namespace Oh
open PySem PySem.Spec PyProof.Rows L2 PpSet
/-! ### leaves stand in repeats -/
theorem gen_rows4 : ∀ {m : Nat} {b : DT} {path : List Nat} {lp : Bool}, gen4 m lp b → ∀ r ∈ rowsW m b path lp, headB r.2.1 = "leave" → r.2.2 = true
  | 0, _, _, _, h, _, _ => h.elim
  | m + 1, b, path, lp, h, r, hr => by
    have kb : ∀ (cs : List DT) (here : List Nat) (lp : Bool) (j : Nat), (∀ c ∈ cs, gen4 m lp c) → r ∈ blocksW (rowsW m) here lp cs j → headB r.2.1 = "leave" → r.2.2 = true := fun cs => by
      induction cs with
      | nil => intro _ _ _ _ hr; cases hr
      | cons c cs ih =>
        intro here lp j hc hr
        unfold blocksW at hr
        rcases List.mem_append.mp hr with hr | hr
        · exact gen_rows4 (hc c List.mem_cons_self) r hr
        · exact ih here lp (j + 1) (fun x hx => hc x (List.mem_cons_of_mem _ hx)) hr
    have ki : ∀ (ds : List DT) (i : Nat), (∀ d ∈ ds, genI4 (gen4 m) lp d) → r ∈ itemsW (rowsW m) path lp ds i → headB r.2.1 = "leave" → r.2.2 = true := fun ds => by
      induction ds with
      | nil => intro _ _ hr; cases hr
      | cons d ds ih =>
        intro i hd hr
        have h1 := hd d List.mem_cons_self
        unfold itemsW at hr
        rcases List.mem_cons.mp hr with rfl | hr
        · exact h1.2.2.1
        rcases List.mem_append.mp hr with hr | hr
        · unfold inW at hr
          rw [if_pos h1.1] at hr
          exact kb _ _ _ _ h1.2.2.2 hr
        · exact ih (i + 1) (fun x hx => hd x (List.mem_cons_of_mem _ hx)) hr
    exact ki (listB b) 0 h.2 hr
theorem find_congr {p q : WRow → Bool} : ∀ {l : List WRow}, (∀ x ∈ l, p x = q x) → l.find? p = l.find? q
  | [], _ => rfl
  | x :: r, h => by
    rw [List.find?_cons, List.find?_cons, h x List.mem_cons_self, find_congr fun y hy => h y (List.mem_cons_of_mem _ hy)]
structure Fin4 (B : DT) : Prop where
  gen : gen4 7 false B
  few : cntW 7 B ≤ 500
  prod : prodW 7 B ≤ 96
theorem fin_due {B : DT} (h : Fin4 B) : dueB B = (dueF 7 B).map some := by
  have hg := gen4_good h.gen
  have f := first_rows (m := 7) (f := 12) (path := []) (lp := false) (by decide) (by decide) (good_dep hg)
  have e : (rowsW 7 B [] false).find? wrongW = (rowsW 7 B [] false).find? repQ := find_congr fun r hr => by
    have hs := (at_deep hg (rows_atB hr)).1
    show (!stmtB r.2.1 || wrongS r.2.2 r.2.1) = (decide (headB r.2.1 = "repeat") && (quietW 12 (argB r.2.1 1)).1)
    rw [hs]
    unfold wrongS
    by_cases c : headB r.2.1 = "leave"
    · rw [if_pos c, gen_rows4 h.gen r hr c, c, decide_eq_false (by decide)]
      rfl
    · rw [if_neg c]
      rfl
  rw [e] at f
  have hb := gen4_block h.gen
  show dueB B = (((rowsW 7 B [] false).find? repQ).map (·.1)).map some
  cases z : (rowsW 7 B [] false).find? repQ with
  | none =>
    rw [z] at f
    refine due_let hb f ?_
    rw [count_good (good_up (by decide) hg), cnt_up (by decide) hg]
    have := h.few
    omega
  | some r =>
    rw [z] at f
    exact due_path hb f
theorem fin_few {B : DT} (h : Fin4 B) : (allS (allT namesB (rowsD B))).2 < 64 ∧ (allS (allT portsB (rowsD B))).2 < 64 := by
  have z := gen4_all (gen4_up (k := 12) (by decide) h.gen)
  have q1 := np_names z
  have q2 := np_ports z
  have e1 : S1c.length = 3 := rfl
  have e2 : S2c.length = 3 := rfl
  exact ⟨by omega, by omega⟩
theorem fin_len {B : DT} (h : Fin4 B) : ∀ x, dueF 7 B = some x → x.length ≤ 1000 := fun x e => by
  unfold dueF at e
  cases z : (rowsW 7 B [] false).find? repQ with
  | none => rw [z] at e; cases e
  | some r =>
    rw [z] at e
    obtain rfl : r.1 = x := Option.some.inj e
    have := (at_deep (gen4_good h.gen) (rows_atB (List.mem_of_find?_eq_some z))).2.1
    omega
/-- another statement among a block's -/
theorem fin_put {l : List DT} {m n : Nat} {d : DT} (hm : m ≤ 7) (hn : n + 1 ≤ 7) (h : gen4 m false (.tup l)) (hl : l.length ≤ 3) (hd : Itm4 n false d) (hc : cntW 7 (.tup l) + wtW (cntW 6) d ≤ 500) (hp : prodW 7 (.tup l) * prodI (prodW 6) d ≤ 96) : Fin4 (.tup (l.take 2 ++ [d] ++ l.drop 2)) := by
  have z := gen4_up hm h
  refine ⟨⟨decide_eq_true ?_, fun x hx => ?_⟩, ?_, ?_⟩
  · rw [List.length_append, List.length_append, List.length_take, List.length_drop]
    show min 2 l.length + 1 + (l.length - 2) ≤ 12
    omega
  · rcases List.mem_append.mp hx with hx | hx
    · rcases List.mem_append.mp hx with hx | hx
      · exact z.2 x (List.mem_of_mem_take hx)
      · rw [List.mem_singleton.mp hx]
        exact itm_up (k := 6) (by omega) hd
    · exact z.2 x (List.mem_of_mem_drop hx)
  · show ((l.take 2 ++ [d] ++ l.drop 2).map (wtW (cntW 6))).sum ≤ 500
    have e : (l.map (wtW (cntW 6))).sum = ((l.take 2).map (wtW (cntW 6))).sum + ((l.drop 2).map (wtW (cntW 6))).sum := by rw [← List.sum_append, ← List.map_append, List.take_append_drop]
    have hc : (l.map (wtW (cntW 6))).sum + wtW (cntW 6) d ≤ 500 := hc
    rw [List.map_append, List.map_append, List.sum_append, List.sum_append]
    show _ + (wtW (cntW 6) d + 0) + _ ≤ 500
    omega
  · show mulL ((l.take 2 ++ [d] ++ l.drop 2).map (prodI (prodW 6))) ≤ 96
    have e : mulL (l.map (prodI (prodW 6))) = mulL ((l.take 2).map (prodI (prodW 6))) * mulL ((l.drop 2).map (prodI (prodW 6))) := by rw [← mulL_append, ← List.map_append, List.take_append_drop]
    have hp : mulL (l.map (prodI (prodW 6))) * prodI (prodW 6) d ≤ 96 := hp
    rw [List.map_append, List.map_append, mulL_append, mulL_append]
    show _ * (prodI (prodW 6) d * 1) * _ ≤ 96
    rw [Nat.mul_one]
    refine Nat.le_trans (Nat.le_of_eq ?_) hp
    rw [e]
    ac_rfl
theorem FnOk_any4 {P : Program} {w : World} {K : PySem.W.Frag} {mg : Str → Option Value} {base : Heap} {CX : CXT} {k : Nat} {f : Addr} {fd : FuncData} {ps : List Str} {sp : Nat → Sp} {N : Nat} (G : ∀ n, n ≤ N → FnOk P w K mg base CX k f fd ps (sp n)) :
    FnOk P w K mg base CX k f fd ps (fun vs H Q E => ∃ n, n ≤ N ∧ sp n vs H Q E) :=
  ⟨fun vs H Q E ⟨n, hn, h⟩ => (G n hn).len vs H Q E h, fun A outer s H args us vs Q E hr he hb hv ⟨n, hn, h⟩ => (G n hn).run A outer s H args us vs Q E hr he hb hv h⟩
def spLaw (K : PySem.W.Frag) : Sp := fun vs H Q _ => ∃ (a : Addr) (ns : List Int), vs = [.ref a] ∧ SqL K H a (ns.map V.int) ∧ ns.length ≤ 63 ∧ ∀ H', Q (.bl true) H'
structure Def (P : Program) (w : World) (K : PySem.W.Frag) (mg : Str → Option Value) (base : Heap) (CX : CXT) (k : Nat) (x : Str) (ps : List Str) (sp : Sp) : Prop where
  ex : ∃ f fd, FnOk P w K mg base CX k f fd ps sp ∧ PySem.W.keepIn K (.ref f) = true ∧ Binds K fd ps [] ∧ mg x = some (.ref f)
theorem part_go {K : PySem.W.Frag} {H : Hp} {Q : VK} {p : Addr} {xs : List V} {ds : List DT} (hp : H p = some (.tup xs)) (ra : RpAll K H xs ds) (n : Nat) : ((∀ v H', Same H H' → Rp K H' v (.tup (ds.take n)) → Q v H') → rSlA K (.ref p) none (some (n : Int)) H Q) ∧ ((∀ v H', Same H H' → Rp K H' v (.tup (ds.drop n)) → Q v H') → rSlA K (.ref p) (some (n : Int)) none H Q) := by
  have la := ra.len
  have e1 : HT.sIx xs.length xs.length (some (n : Int)) = min n xs.length := HT.sIx_nat _ _ _
  have e2 : HT.sIx xs.length 0 (some (n : Int)) = min n xs.length := HT.sIx_nat _ _ _
  refine ⟨fun k => ⟨p, _, rfl, SqT.of hp, fun z => ?_, fun _ q nq => ?_⟩, fun k => ⟨p, _, rfl, SqT.of hp, fun z => ?_, fun _ q nq => ?_⟩⟩
  · have : ds.take n = ds := List.take_of_length_le (by
      have z2 := z.2
      rw [e1] at z2
      omega)
    exact k _ H (Same.refl H) (by rw [this]; exact .tup hp ra)
  · have e3 : cutV xs none (some (n : Int)) = xs.take n := by
      unfold cutV
      rw [e1, HT.sIx_none, List.drop_zero, Nat.sub_zero]
      by_cases c : n ≤ xs.length
      · rw [Nat.min_eq_left c]
      · rw [Nat.min_eq_right (by omega), List.take_length, List.take_of_length_le (by omega)]
    rw [e3]
    exact k _ _ (Same.new nq) (.tup upd_same ((ra.take n).keep (Same.new nq)))
  · have : ds.drop n = ds := by
      have z1 := z.1
      rw [e2] at z1
      by_cases c : n = 0
      · rw [c]; rfl
      · have : ds = [] := List.eq_nil_of_length_eq_zero (by omega)
        rw [this, List.drop_nil]
    exact k _ H (Same.refl H) (by rw [this]; exact .tup hp ra)
  · have e3 : cutV xs (some (n : Int)) none = xs.drop n := by
      unfold cutV
      rw [e2, HT.sIx_none]
      by_cases c : n ≤ xs.length
      · rw [Nat.min_eq_left c, List.take_of_length_le (by rw [List.length_drop]; exact Nat.le_refl _)]
      · rw [Nat.min_eq_right (by omega), Nat.sub_self, List.take_zero, List.drop_of_length_le (by omega)]
    rw [e3]
    exact k _ _ (Same.new nq) (.tup upd_same ((ra.drop n).keep (Same.new nq)))
section
variable {P : Program} {w : World} {K : PySem.W.Frag} {mg : Str → Option Value} {base : Heap} {hR hBR f1 : Addr}
/-- every depth -/
theorem ok_blk4 {f fD fR fS : Addr} {fd fdD fdR fdS : FuncData} (F : Fun K "_law_block" "_law_block" lBlock f fd) (FR : Fun K "_law_branching" "_law_branching" lBranching fR fdR) (T : TxtO mg)
    (GD : FnOk P w K mg base CX0 2 fD fdD ["_law_source_here", "_law_many"] spDraw) (kD : PySem.W.keepIn K (.ref fD) = true) (bD : Binds K fdD ["_law_source_here", "_law_many"] []) (mD : mg "_law_draw" = some (.ref fD))
    (GS : FnOk P w K mg base CX0 3 fS fdS ["_law_source_here", "_law_looped"] (spSimp4 K)) (kS : PySem.W.keepIn K (.ref fS) = true) (bS : Binds K fdS ["_law_source_here", "_law_looped"] []) (mS : mg "_law_simple" = some (.ref fS))
    (bB : Binds K fd p4b []) (mB : mg "_law_block" = some (.ref f)) (bR : Binds K fdR p4b []) (mR : mg "_law_branching" = some (.ref fR)) : ∀ m, FnOk P w K mg base CX0 (2 * m + 4) f fd p4b (spBlk4 K m)
  | 0 => block4_step F T (Nat.le_refl 3) GD kD bD mD GS kS bS mS never_ok FR.kp bR mR
  | m + 1 => by
    have G := ok_blk4 F FR T GD kD bD mD GS kS bS mS bB mB bR mR m
    have GR := br4_step (m := m) (j := 2 * m + 4) FR T (by omega) GD kD bD mD G F.kp bB mB
    exact block4_step (m := m + 1) (j := 2 * m + 5) F T (by omega) GD kD bD mD GS kS bS mS GR FR.kp bR mR
abbrev nLaw : List Str := ["_law_script", "_law_source_here", "_law_room", "_law_block_here", "_law_inner", "_law_due", "_law_found", "_law_routine", "e"]
theorem scLaw : FnScope nLaw ["_law_script"] (defScope sLaw) := ⟨rfl, rfl, rfl, by decide +kernel, rfl, by decide +kernel, by decide +kernel⟩
theorem ok_law {f fI fA : Addr} {fd fdI fdA : FuncData} (F : Fun K "law" "law" sLaw f fd) (DZ : Def P w K mg base CX0 1 "_law_source" ["_law_script"] (spSource K)) (DD : Def P w K mg base CX0 2 "_law_draw" ["_law_source_here", "_law_many"] spDraw)
    (DB : Def P w K mg base CX0 14 "_law_block" p4b (fun vs H Q E => ∃ m, m ≤ 5 ∧ spBlk4 K m vs H Q E)) (DF : Def P w K mg base CX0 10 "_law_first" ["_law_block_here"] (spFst K 7))
    (C : RCls K hR) (M : Mk K hR fI) (GI : FnOk P w K mg base (L2.CX P w) 37 fI fdI ["self", "block"] (spInitD K hR hBR)) (bI : Binds K fdI ["self", "block"] [])
    (mRo : mg "Routine" = some (.ref hR)) (mH : mg "BadRoutine" = some (.ref hBR)) (TE : ErrC K f1 hBR) (te : PySem.W.exmOne K (.ref hBR) (.ref hBR) = some true)
    (GA : FnOk P w K mg base CX0 130 fA fdA ["_law_actual", "_law_due"] (spAlike K 128)) (kA : PySem.W.keepIn K (.ref fA) = true) (bA : Binds K fdA ["_law_actual", "_law_due"] []) (mA : mg "_law_alike" = some (.ref fA)) :
    FnOk P w K mg base CX0 131 f fd ["_law_script"] (spLaw K) := by
  obtain ⟨fZ, fdZ, GZ, kZ, bZ, mZ⟩ := DZ.ex
  obtain ⟨fD, fdD, GD, kD, bD, mD⟩ := DD.ex
  obtain ⟨fB, fdB, GB, kB, bB, mB⟩ := DB.ex
  obtain ⟨fF, fdF, GF, kF, bF, mF⟩ := DF.ex
  refine F.ok scLaw (fun vs H Q E h => ?_) (fun cdv A outer s H vs Q E hr h => ?_)
  · obtain ⟨a, ns, rfl, _⟩ := h
    rfl
  · obtain ⟨a0, ns0, rfl, hsq, hlen, k⟩ := h
    have hr1 : Room 1 _ := hr.mono (by decide)
    have hr2 : Room 2 _ := hr.mono (by decide)
    have hr14 : Room 14 _ := hr.mono (by decide)
    have hr10 : Room 10 _ := hr.mono (by decide)
    have hr38 : Room 38 _ := hr.mono (by decide)
    refine ⟨_, (pss_cons (ps_set (i := 1) scLaw.nd rfl (Or.inl rfl) (pe_call GZ hr1 (by rfl) mZ kZ bZ .nil pass0 (pa_cons (pv 0) pa_nil)))
      (pss_cons (ps_set (i := 2) scLaw.nd rfl (Or.inl rfl) (pe_lst (pa_cons (pe_op op_add pe_int (pe_call GD hr2 (by rfl) mD kD bD .nil pass0 (pa_cons (pv 1) (pa_cons pe_int pa_nil)))) (pa_cons pe_int pa_nil))))
      (pss_cons (ps_set (i := 3) scLaw.nd rfl (Or.inl rfl) (pe_call GB hr14 (by rfl) mB kB bB .nil pass0 (pa_cons (pv 1) (pa_cons (pv 2) (pa_cons (pe_op op_add pe_int (pe_call GD hr2 (by rfl) mD kD bD .nil pass0 (pa_cons (pv 1) (pa_cons pe_int pa_nil)))) (pa_cons pe_bl pa_nil))))))
      (pss_cons (ps_if (pt_cmpR op_gt (pe_call GD hr2 (by rfl) mD kD bD .nil pass0 (pa_cons (pv 1) (pa_cons pe_int pa_nil))) pe_int (nomark _))
        (pss_cons (ps_set (i := 4) scLaw.nd rfl (Or.inl rfl) (pe_op op_catA (pe_call GB hr14 (by rfl) mB kB bB .nil pass0 (pa_cons (pv 1) (pa_cons (pv 2) (pa_cons pe_int (pa_cons pe_bl pa_nil))))) (pe_op op_repA (pe_tup (pa_cons (pe_tup (pa_cons pe_str (pa_cons pe_str (pa_cons pe_int pa_nil)))) pa_nil)) (pe_call GD hr2 (by rfl) mD kD bD .nil pass0 (pa_cons (pv 1) (pa_cons pe_int pa_nil))))))
        (pss_one (ps_set (i := 3) scLaw.nd rfl (Or.inl rfl) (pe_op op_catA (pe_op op_catA (pe_slice sl_tupA (pv 3) po_none (po_some pe_int)) (pe_tup (pa_cons (pe_tup (pa_cons pe_str (pa_cons (pv 4) pa_nil))) pa_nil))) (pe_slice sl_tupA (pv 3) (po_some pe_int) po_none))))) pss_nil)
      (pss_cons (ps_set (i := 5) scLaw.nd rfl (Or.inl rfl) (pe_call GF hr10 (by rfl) mF kF bF .nil pass0 (pa_cons (pv 3) pa_nil)))
      (pss_cons (ps_set (i := 6) scLaw.nd rfl (Or.inl rfl) pe_non)
      (pss_cons (ps_set (i := 7) scLaw.nd rfl (Or.inl rfl) pe_non)
      (pss_cons (ps_try_as (i := 8) (tb := fun W => tAsg (tMakeS hR (spInitD K hR hBR) (WE W) (tCons (tVar 3) tNil)) (gName 7)) (ts := fun a cls d => tAsg (tTup (tCons (tC (.str "refused")) (tCons (tXf a cls d hBR "what" (tVar 8)) tNil))) (gName 6)) (Wout := fun _ _ _ _ => False) rfl rfl scLaw.nd rfl rfl ⟨rfl, by decide, Or.inl mH⟩ takes0
          (fun W pn xe tk _ => pss_one (ps_set (i := 7) scLaw.nd rfl (Or.inl rfl) (by exact (pe_makeS M GI hr38 rfl mRo bI (fun σ => passAt tk σ) (by exact (pa_cons (pv 3) pa_nil))))))
          (fun a oe cls d pn hz hf => pss_one (ps_set (i := 6) scLaw.nd rfl (Or.inl rfl) (by exact (pe_tup (pa_cons pe_str (pa_cons (pe_xf TE.xf TE.no hz hf (pv 8)) pa_nil)))))))
      (pss_cons (ps_if (pt_cmp (pc_isN (pv 5)))
        (pss_one (ps_ret (pe_and (pe_cmpR op_isN (pv 6) pe_non (nomark _)) (pe_one (pe_call GA hr (by rfl) mA kA bA .nil pass0 (pa_cons (pe_fld (pv 7) rfl) (pa_cons (pv 3) pa_nil))))))) pss_nil)
      (pss_one (ps_ret (pe_and (pe_cmpR op_notN (pv 6) pe_non (nomark _)) (pe_one (pe_call GA hr (by rfl) mA kA bA .nil pass0 (pa_cons (pe_ix ix_tup (pv 6) pe_int (fun _ _ => rfl)) (pa_cons (pv 5) pa_nil)))))))))))))))), ?_⟩
    refine ⟨_, rfl, a0, ns0, rfl, hsq, hlen, fun a c H1 s1 S1 => ?_⟩
    refine ⟨_, rfl, a, c, 19, rfl, S1, by decide, log2_small (by decide) (by decide), fun e0 H2 e00 e01 S2 K2 => ?_⟩
    obtain ⟨n0, en0⟩ : ∃ n0 : Nat, (6 : Int) + e0 = (n0 : Int) := ⟨(6 + e0).toNat, by omega⟩
    refine ⟨_, _, rfl, rfl, by show 2 ≤ sizeLine; decide, fun r nr => ?_⟩
    generalize hX : upd H2 r (HO.lst _) = HX
    have eX : HX = upd H2 r (.lst [.int (n0 : Int), .int ((1 : Nat) : Int)]) := by
      rw [← hX]
      show upd H2 r (.lst [.int (6 + e0), .int 1]) = _
      rw [en0]
      rfl
    have R3 : Rm4 HX a c r n0 1 := by
      rw [eX]
      exact ⟨S2.new nr, upd_same, free_ne S2.some_a nr, free_ne S2.some_c nr⟩
    clear eX hX
    refine ⟨_, rfl, _, rfl, _, rfl, a, c, 4, rfl, R3.src, by decide, log2_small (by decide) (by decide), fun e4 H4 e40 e41 S4 K4 => ?_⟩
    have R4 := R3.drw ⟨K4, S4⟩
    obtain ⟨m, em⟩ : ∃ m : Nat, (2 : Int) + e4 = (m : Int) := ⟨(2 + e4).toNat, by omega⟩
    refine ⟨_, _, rfl, rfl, m, by omega, a, c, r, n0, 1, false, congrArg (fun z => [V.ref a, V.ref r, V.int z, V.bl false]) em, R4, by omega, Nat.le_refl _, by decide, fun vB l H5 n5 k5 r5 g5 l5 c5 q5 h15 h95 R5 D5 => ?_⟩
    refine ⟨_, rfl, a, c, 3, rfl, R5.src, by decide, log2_small (by decide) (by decide), fun e6 H6 e60 e61 S6 K6 => ?_⟩
    have d6 : Drw a c H5 H6 := ⟨K6, S6⟩
    have R6 := R5.drw d6
    have r6 := Rp.drw R5.src d6 r5
    refine ⟨_, _, rfl, rfl, _, rfl, ite2 (fun _ => ?b1) (fun _ => ?b2)⟩
    have n24 : n0 ≤ 24 := by omega
    case' b1 =>
      refine ⟨_, rfl, _, rfl, 4, by decide, a, c, r, n5, k5, true, rfl, R6, (by have := c5 0; omega), h15, h95, fun vI li H7 n7 k7 r7 g7 l7 c7 q7 h17 h97 R7 D7 => ?_⟩
      refine ⟨by show 3 ≤ sizeLine; decide, fun t nt => ⟨by show 1 ≤ sizeLine; decide, fun t2 nt2 => ?_⟩⟩
      have s8 := Same.new (o := .tup [.str "tell", .str "p", .int 0]) nt
      have s9 := Same.new (o := .tup [.ref t]) nt2
      have ht := s9 _ _ (upd_same (H := H7) (a := t) (o := .tup [.str "tell", .str "p", .int 0]))
      have ht2 : upd (upd H7 t (.tup [.str "tell", .str "p", .int 0])) t2 (.tup [.ref t]) t2 = some (.tup [.ref t]) := upd_same
      have s89 := s8.trans s9
      generalize upd (upd H7 t (.tup [.str "tell", .str "p", .int 0])) t2 (.tup [.ref t]) = H8 at ht ht2 s89 ⊢
      have R8 := R7.same s89
      have r8 := r7.keep s89
      have rt : RpAll K H8 [.ref t] [tellD "p" (.int 0)] := .cons (.tup ht (.cons (.str (by decide +kernel)) (.cons (.str (by decide +kernel)) (.cons (.int _) .nil)))) .nil
      have st := smp_tell (lp := true) (i := 0) (by decide) (by decide)
      have b8 : Rp K H8 vB (.tup l) := (Rp.dr4 R6 R7 D7 r6).keep s89
      refine ⟨_, rfl, a, c, 2, rfl, R8.src, by decide, log2_small (by decide) (by decide), fun e8 H9 e80 e81 S9 K9 => ?_⟩
      have d9 : Drw a c H8 H9 := ⟨K9, S9⟩
      have r9 := Rp.drw R8.src d9 r8
      have b9 := Rp.drw R8.src d9 b8
      have rt9 := RpAll.drw R8.src d9 rt
      have ht29 := d9.at R8.src ht2 (fun _ => nofun)
      obtain ⟨pI, xI, rfl, hpI, raI⟩ := r9.tup_inv
      refine ⟨t2, e8, _, rfl, rfl, SqT.of ht29, by omega, by omega, by show 1 ≤ 1000; decide, fun z => ?e1, fun _ z q nq => ?e0⟩
      case' e1 =>
        refine cat4 hpI ht29 raI rt9 (by show li.length + 1 ≤ 1000; omega) fun u H10 s10 ru => ?_
        have g2 := gen_sn g7 (by omega) st
        have c2 : ∀ q, cntW q (.tup (li ++ [tellD "p" (.int 0)])) + 2 * n7 ≤ 1 + 2 * n5 := fun q => by
          have := cnt_sn (q := q) (l := li) st
          have := c7 q
          omega
        have q2 : ∀ q, prodW q (.tup (li ++ [tellD "p" (.int 0)])) * k5 ≤ k7 := fun q => by rw [prod_sn st]; exact q7 q
        generalize li ++ [tellD "p" (.int 0)] = l2 at ru g2 c2 q2
        have b10 := b9.keep s10
      case' e0 =>
        have sq := Same.new (o := .tup (List.replicate e8.toNat [V.ref t]).flatten) nq
        have hq : upd H9 q (.tup (List.replicate e8.toNat [V.ref t]).flatten) q = some (.tup []) := by
          rw [upd_same]
          have e : e8 = 0 := by omega
          rw [e]
          rfl
        refine cat4 (sq _ _ hpI) hq (raI.keep sq) .nil (by show li.length + 0 ≤ 1000; omega) fun u H10 s10 ru => ?_
        rw [List.append_nil] at ru
        have g2 := g7
        have c2 : ∀ q, cntW q (.tup li) + 2 * n7 ≤ 1 + 2 * n5 := fun q => by
          have := c7 q
          omega
        have q2 := q7
        generalize li = l2 at ru g2 c2 q2
        have b10 := (b9.keep sq).keep s10
      all_goals
        obtain ⟨pb, xb, rfl, hpb, rab⟩ := b10.tup_inv
        refine ⟨_, rfl, 2, rfl, (part_go hpb rab 2).1 fun v1 H11 s11 r11 => ?_⟩
        obtain ⟨p1, x1, rfl, hp1, ra1⟩ := r11.tup_inv
        refine ⟨_, rfl, by show 2 ≤ sizeLine; decide, fun t5 nt5 => ⟨by show 1 ≤ sizeLine; decide, fun t6 nt6 => ?_⟩⟩
        have s12 := Same.new (o := .tup [.str "repeat", u]) nt5
        have s13 := Same.new (o := .tup [.ref t5]) nt6
        have ht5 := s13 _ _ (upd_same (H := H11) (a := t5) (o := .tup [.str "repeat", u]))
        have ht6 : upd (upd H11 t5 (.tup [.str "repeat", u])) t6 (.tup [.ref t5]) t6 = some (.tup [.ref t5]) := upd_same
        have s123 := s12.trans s13
        generalize upd (upd H11 t5 (.tup [.str "repeat", u])) t6 (.tup [.ref t5]) = H13 at ht5 ht6 s123 ⊢
        have rrep : RpAll K H13 [.ref t5] [repD (.tup l2)] := .cons (.tup ht5 (.cons (.str (by decide +kernel)) (.cons (ru.keep (s11.trans s123)) .nil))) .nil
        refine cat4 (s123 _ _ hp1) ht6 (ra1.keep s123) rrep (by rw [List.length_take]; show min 2 l.length + 1 ≤ 1000; omega) fun v7 H14 s14 r14 => ?_
        obtain ⟨p7, x7, rfl, hp7, ra7⟩ := r14.tup_inv
        have s1014 := s11.trans (s123.trans s14)
        refine ⟨_, rfl, 2, rfl, ?_⟩
        dsimp only [tNoPart]
        refine (part_go (s1014 _ _ hpb) (rab.keep s1014) 2).2 fun v8 H15 s15 r15 => ?_
        obtain ⟨p8, x8, rfl, hp8, ra8⟩ := r15.tup_inv
        refine cat4 (s15 _ _ hp7) hp8 (ra7.keep s15) ra8 (by rw [List.length_append, List.length_take, List.length_drop]; show min 2 l.length + 1 + (l.length - 2) ≤ 1000; omega) fun vF HF sF rF => ?_
        have FF : Fin4 (.tup (l.take 2 ++ [repD (.tup l2)] ++ l.drop 2)) := by
          have ig := itm_rep (lp := false) g2
          refine fin_put (m := m + 1) (n := 5) (by omega) (by decide) g5 l5 ig ?_ ?_
          · rw [wt_of4 ig.1, blocks_rep]
            show cntW 7 (.tup l) + (1 + (cntW 6 (.tup l2) + 0)) ≤ 500
            have := c5 7
            have := c2 6
            omega
          · unfold prodI
            rw [wP_no (h := "repeat") rfl (by decide) (by decide), blocks_rep]
            show prodW 7 (.tup l) * (1 * (prodW 6 (.tup l2) * 1)) ≤ 96
            rw [Nat.mul_one, Nat.one_mul]
            have z := mul_step (q5 7) (q2 6)
            rw [Nat.mul_one] at z
            exact Nat.le_trans z h97
        generalize DT.tup (l.take 2 ++ [repD (.tup l2)] ++ l.drop 2) = B at rF FF
        refine ⟨_, rfl, _, B, rfl, rF, gen4_good FF.gen, by decide, FF.few, FF.prod, fun uD H20 s20 pu => ?_⟩
    case' b2 =>
      have rF := r6
      have FF : Fin4 (.tup l) := ⟨gen4_up (by omega) g5, by have := c5 7; omega, by
        have := q5 7
        omega⟩
      generalize DT.tup l = B at rF FF
      refine ⟨_, rfl, _, B, rfl, rF, gen4_good FF.gen, by decide, FF.few, FF.prod, fun uD H20 s20 pu => ?_⟩
    all_goals
      have rB := rF.keep s20
      have hd := fin_due FF
      refine ⟨_, rfl, fun x dx nx nd ne => ?_⟩
      have sx : Same H20 (upd (upd H20 dx (.own x)) x (.ins hR dx [])) := (Same.new nd).trans (Same.new (by rw [upd_ne (Ne.symm ne)]; exact nx))
      refine ⟨x, _, _, dx, rfl, rB.keep sx, upd_same, fun hn => ?_, fun wp hw e u H2 s2 he hu2 => ?_⟩
      · obtain ⟨q1, q2⟩ := fin_few FF
        have dn : dueF 7 B = none := by
          rw [hn] at hd
          exact Option.map_eq_none_iff.mp hd.symm
        rw [dn] at pu
        obtain rfl : uD = .non := pu
        refine ⟨q1, q2, fun H2 keep R => ⟨rfl, ?_⟩⟩
        have s2 : Same H20 H2 := fun b o e => keep b o (sx _ _ e) (ne_of_none e nx)
        obtain ⟨dx', D1, D2, N1, N2, k1, k2, e, _⟩ := R.ex
        have hp := plain_good 12 _ (due_none hn).2.1
        exact ⟨_, rfl, _, rfl, iteT ⟨_, rfl, rfl, _, rfl, iteT ⟨_, rfl, x, hR, dx', _, _, rfl, e, C.cl, C.n1, rfl, _, rfl, _, _, _, rfl, R.rp, rB.keep s2, plain_up (by decide) hp, fun H3 s3 => k H3⟩⟩⟩
      · refine ⟨true, te, fun _ a0 _ => ?_, fun z => Bool.noConfusion z⟩
        refine ⟨_, rfl, rfl, rfl, e, _, u, rfl, he, (by simp [List.lookup]), (by show 2 ≤ sizeLine; decide), fun L nL => ?_⟩
        rw [hw] at hd
        cases dF : dueF 7 B with
        | none => rw [dF] at hd; cases hd
        | some pw =>
          rw [dF] at hd pu
          have ew : wp = some pw := Option.some.inj hd
          subst ew
          have s3 : Same H20 (upd H2 L (.tup [.str "refused", u])) := (sx.trans s2).trans (Same.new nL)
          obtain ⟨p1, rfl, h1⟩ := PathOr.keep s3 pu
          obtain ⟨p2, rfl, h2⟩ := hu2.keep (Same.new (o := .tup [.str "refused", u]) nL)
          have hL : upd H2 L (.tup [.str "refused", .ref p2]) L = some (.tup [.str "refused", .ref p2]) := upd_same
          generalize upd H2 L (.tup [.str "refused", .ref p2]) = H3 at s3 h1 h2 hL ⊢
          refine ⟨_, rfl, _, rfl, ite2 (fun z => absurd (of_decide_eq_true z) (by intro q; cases q)) fun _ => ?_⟩
          refine ⟨_, rfl, rfl, _, rfl, ite2 (fun _ => ?_) (fun z => absurd rfl z)⟩
          exact ⟨_, rfl, L, _, _, _, rfl, rfl, SqT.of hL, at_of (j := 1) rfl rfl, _, rfl, .ref p2, .ref p1, pathD pw, rfl, path_rp h2, path_rp h1, plain_up (by decide) (plain_path (fin_len FF pw dF)), fun H4 s4 => k H4⟩
end
end Oh
namespace Oh
open PySem PySem.Spec PyProof.Rows L2
/-- a def as the top has left it -/
structure DefF (K : PySem.W.Frag) (x qual : Str) (st : Stmt) (f : Addr) : Prop where
  ex : ∃ (oc : Value) (od : Option Addr) (kV dc pm : Value) (an : Option Addr) (cd ct : Value) (sl : Array (Option Value)), K.lookup f = some ⟨oc, od, .func (PySem.W.fnOf x qual (defArgs st) (defBody st) (defScope st) .none kV dc pm an cd ct), sl⟩ ∧ PySem.W.codeIn K cd qual = true
  kp : PySem.W.keepIn K (.ref f) = true
theorem DefF.fn {K : PySem.W.Frag} {x qual : Str} {st : Stmt} {f : Addr} (d : DefF K x qual st f) : ∃ fd, Fun K x qual st f fd ∧ ∃ kV dc pm an cd ct, fd = PySem.W.fnOf x qual (defArgs st) (defBody st) (defScope st) .none kV dc pm an cd ct := by
  obtain ⟨⟨oc, od, kV, dc, pm, an, cd, ct, sl, l, c⟩, k⟩ := d
  exact ⟨_, fun_mk l c k, kV, dc, pm, an, cd, ct, rfl⟩
theorem def_mk {K : PySem.W.Frag} {x qual : Str} {st : Stmt} {f : Addr} {oc : Value} {od : Option Addr} {kV dc pm : Value} {an : Option Addr} {cd ct : Value} {sl : Array (Option Value)}
    (l : K.lookup f = some ⟨oc, od, .func (PySem.W.fnOf x qual (defArgs st) (defBody st) (defScope st) .none kV dc pm an cd ct), sl⟩) (c : PySem.W.codeIn K cd qual = true) (k : PySem.W.keepIn K (.ref f) = true) : DefF K x qual st f := ⟨⟨oc, od, kV, dc, pm, an, cd, ct, sl, l, c⟩, k⟩
theorem err_mk {K : PySem.W.Frag} {f1 C N : Addr} {nm q : Str} {bs bm : List Value} {sn : List Str} {sub : List Value} {ab : Bool} {col : Option Bool} {dd : Option Addr} {k0 k1 k2 k3 k5 : Option Value}
    (xL : K.lookup C = some (excClassObj nm q C N bs bm true sn sub ab col dd k0 k1 k2 k3 k5 "ValueError.__new__")) (rf : PySem.HandSPX.refsVE bm = true) (sa : PySem.W.findIn K (.ref C) "__setattr__" = some (some (.builtin "object.__setattr__"))) (ex : PySem.W.subIn K (.ref C) (.type "BaseException") = some true) (ty : PySem.W.typeIn K (.ref C) = some (.type "type"))
    (kC : PySem.W.keepIn K (.ref C) = true) (ga : PySem.W.findIn K (.ref C) "__getattribute__" = some (some (.builtin "BaseException.__getattribute__"))) (gg : PySem.W.findIn K (.ref C) "__getattr__" = some none) (hd : PySem.W.hasDictIn K C = true) (ha : PySem.W.findIn K (.ref C) "__class__" = some (some (.builtin "object.__class__")))
    (hn : PySem.W.specialIn K (.builtin "object.__class__") "__get__" = some (some (.builtin "getset_descriptor.__get__"))) (ht : PySem.W.takesIn K (.builtin "object.__class__") = some true) (hm : PySem.W.mroIn K C (.type "object") = some true) (no : PySem.W.findIn K (.ref C) "what" = some none) (ini : PySem.W.findIn K (.ref C) "__init__" = some (some (.ref f1))) : ErrC K f1 C :=
  ⟨⟨⟨nm, q, N, bs, bm, sn, sub, ab, col, dd, k0, k1, k2, k3, k5, xL, rf⟩, sa, ex, ty, kC⟩, ⟨ga, gg, ex, hd, ha, hn, ht, hm⟩, ⟨ga, gg, ex, hd⟩, no, ini⟩
theorem einit_mk {K : PySem.W.Frag} {f T : Addr} {oc kV dc pm cd ct : Value} {od an : Option Addr} {sl : Array (Option Value)} {o : Obj} {n : Nat} (l : K.lookup f = some ⟨oc, od, .func (PySem.W.fnOf "__init__" "HeardError.__init__" (defArgs sEInit) (defBody sEInit) (defScope sEInit) (.ref T) kV dc pm an cd ct), sl⟩)
    (c : PySem.W.codeIn K cd "HeardError.__init__" = true) (tl : K.lookup T = some o) (od' : o.data = .seq #[.none] n) (k : PySem.W.keepIn K (.ref f) = true) : ∃ fd1, EInit K f fd1 :=
  ⟨_, ⟨oc, od, .ref T, kV, dc, pm, an, cd, ct, sl, rfl, l, c, .inr ⟨(fun z => nomatch z), T, o, [.none], n, rfl, tl, od', .cons rfl .nil⟩, .inl rfl⟩, k⟩
theorem FnOk_any {P : Program} {w : World} {K : PySem.W.Frag} {mg : Str → Option Value} {base : Heap} {CX : CXT} {k : Nat} {f : Addr} {fd : FuncData} {ps : List Str} {sp : Nat → Sp} {N : Nat} (G : ∀ n, n ≤ N → FnOk P w K mg base CX k f fd ps (sp n)) :
    FnOk P w K mg base CX k f fd ps (fun vs H Q E => ∃ n, n ≤ N ∧ sp n vs H Q E) :=
  ⟨fun vs H Q E ⟨n, hn, h⟩ => (G n hn).len vs H Q E h, fun A outer s H args us vs Q E hr he hb hv ⟨n, hn, h⟩ => (G n hn).run A outer s H args us vs Q E hr he hb hv h⟩
theorem expr_mk {K : PySem.W.Frag} {f T : Addr} {oc kV dc pm cd ct : Value} {od an : Option Addr} {sl : Array (Option Value)} {o : Obj} {n : Nat} {t : Tok} (l : K.lookup f = some ⟨oc, od, .func (PySem.W.fnOf "is_expression" "is_expression" (defArgs sIsExpr) (defBody sIsExpr) (defScope sIsExpr) (.ref T) kV dc pm an cd ct), sl⟩)
    (c : PySem.W.codeIn K cd "is_expression" = true) (tl : K.lookup T = some o) (od' : o.data = .seq #[.int 5 t] n) (k : PySem.W.keepIn K (.ref f) = true) : ∃ fd, ExprF K f fd :=
  ⟨_, ⟨oc, od, .ref T, kV, dc, pm, an, cd, ct, sl, rfl, l, c, .inr ⟨(fun z => nomatch z), T, o, [.int 5 t], n, rfl, tl, od', .cons ⟨t, rfl⟩ .nil⟩, .inl rfl⟩, k⟩
theorem b_expr2 {K : PySem.W.Frag} {f : Addr} {fd : FuncData} (F : ExprF K f fd) : Binds K fd ["value", "deepest"] [] := by
  obtain ⟨ds, r, b⟩ := F.binds1 (ps := ["value", "deepest"]) 2 1 (by decide) rfl fun T kV doc pm an cdv ct us its h1 h2 => match us, its, h1, h2 with | [_, _], [_], _, _ => ⟨_, rfl, rfl⟩
  cases r
  exact b
theorem b_expr1 {K : PySem.W.Frag} {f : Addr} {fd : FuncData} (F : ExprF K f fd) : ∃ ds, Vals [V.int 5] ds ∧ Binds K fd ["value", "deepest"] ds :=
  F.binds1 (ps := ["value", "deepest"]) 1 0 (by decide) rfl fun T kV doc pm an cdv ct us its h1 h2 => match us, its, h1, h2 with | [_], [_], _, _ => ⟨_, rfl, rfl⟩
theorem parts_mk {K : PySem.W.Frag} {w : World} {a : Addr} {es : Array DictEntry} {n : Nat} {t0 t1 t2 t3 t4 : Tok} (l : K.lookup a = some ⟨.type "dict", none, .dict es n, #[]⟩) (kl : PySem.W.KeysLit w.params es.toList) (hk : es.toList.map keyS = partsK.map fun q => some q.1) (lo : (a == sysModules) = false)
    (v0 : PySem.W.nsIn K a "plus" = some (some (.int 2 t0))) (v1 : PySem.W.nsIn K a "minus" = some (some (.int 2 t1))) (v2 : PySem.W.nsIn K a "same" = some (some (.int 2 t2))) (v3 : PySem.W.nsIn K a "less" = some (some (.int 2 t3))) (v4 : PySem.W.nsIn K a "not" = some (some (.int 1 t4))) : WD K w a partsK := by
  refine ⟨⟨es, n, l, kl, hk⟩, lo, ?_⟩
  unfold partsK
  simp only [List.forall_mem_cons]
  exact ⟨⟨_, v0, t0, rfl⟩, ⟨_, v1, t1, rfl⟩, ⟨_, v2, t2, rfl⟩, ⟨_, v3, t3, rfl⟩, ⟨_, v4, t4, rfl⟩, fun _ z => absurd z List.not_mem_nil⟩
theorem checks_mk {K : PySem.W.Frag} {w : World} {a fS fH fW fO fI fR fw : Addr} {es : Array DictEntry} {n : Nat} (l : K.lookup a = some ⟨.type "dict", none, .dict es n, #[]⟩) (kl : PySem.W.KeysLit w.params es.toList) (hk : es.toList.map keyS = (checksK fS fH fW fO fI fR fw).map fun q => some q.1) (lo : (a == sysModules) = false)
    (v0 : PySem.W.nsIn K a "set" = some (some (.ref fS))) (v1 : PySem.W.nsIn K a "tell" = some (some (.ref fS))) (v2 : PySem.W.nsIn K a "hear" = some (some (.ref fH))) (v3 : PySem.W.nsIn K a "wait" = some (some (.ref fW))) (v4 : PySem.W.nsIn K a "open" = some (some (.ref fO))) (v5 : PySem.W.nsIn K a "if" = some (some (.ref fI))) (v6 : PySem.W.nsIn K a "repeat" = some (some (.ref fR))) (v7 : PySem.W.nsIn K a "leave" = some (some (.ref fw))) (v8 : PySem.W.nsIn K a "home" = some (some (.ref fw))) (v9 : PySem.W.nsIn K a "fail" = some (some (.ref fw))) : WD K w a (checksK fS fH fW fO fI fR fw) := by
  refine ⟨⟨es, n, l, kl, hk⟩, lo, ?_⟩
  unfold checksK
  simp only [List.forall_mem_cons]
  exact ⟨⟨_, v0, rfl⟩, ⟨_, v1, rfl⟩, ⟨_, v2, rfl⟩, ⟨_, v3, rfl⟩, ⟨_, v4, rfl⟩, ⟨_, v5, rfl⟩, ⟨_, v6, rfl⟩, ⟨_, v7, rfl⟩, ⟨_, v8, rfl⟩, ⟨_, v9, rfl⟩, fun _ z => absurd z List.not_mem_nil⟩
theorem kept_mk {K : PySem.W.Frag} {kw : Addr} {o : Obj} {its : Array Value} {n : Nat} (l : K.lookup kw = some o) (c : o.cls = .type "tuple") (d : o.data = .seq its n) (z : its.size ≤ sizeLine) (v : Vals keptV its.toList) :
    ∃ (o : Obj) (its : Array Value) (n : Nat), K.lookup kw = some o ∧ o.cls = .type "tuple" ∧ o.data = .seq its n ∧ its.size ≤ sizeLine ∧ Vals keptV its.toList := ⟨o, its, n, l, c, d, z, v⟩
set_option maxHeartbeats 0 in
theorem all_mk {P : Program} {w : World} {K : PySem.W.Frag} {h : Heap} {mg : Str → Option Value} {fa f1 hR hB f_expr kw pk ck fL f_source f_mixed f_draw f_alike f_parts f_simple f_branching f_block f_listed f_choices f_after f_out f_next f_passes f_lfirst f_isInt f_isDigit f_isName f_isBlock f_headOf f_isStmt f_setTell f_isHear f_isWait f_isRow f_isOpen f_isChoice f_isIf f_isRepeat f_isWord f_blocksOf f_namesOf f_namesIn f_portsOf f_first f_isWrong f_deals f_isSound f_quiet f_quietOf f_count f_laid f_check f_rinit : Addr} {t1 t2 t3 t4 t5 : Tok} (X : K.In h) (G : h.Ns mainGlobals mg) (hfa : mg "law" = some (.ref fa))
    (aL : PySem.W.nsIn K mainGlobals "law" = some (some (.ref fL))) (dL : DefF K "law" "law" sLaw fL)
    (a_source : PySem.W.nsIn K mainGlobals "_law_source" = some (some (.ref f_source))) (d_source : DefF K "_law_source" "_law_source" sSource f_source)
    (a_mixed : PySem.W.nsIn K mainGlobals "_law_mixed" = some (some (.ref f_mixed))) (d_mixed : DefF K "_law_mixed" "_law_mixed" sMixed f_mixed)
    (a_draw : PySem.W.nsIn K mainGlobals "_law_draw" = some (some (.ref f_draw))) (d_draw : DefF K "_law_draw" "_law_draw" sDraw f_draw)
    (a_alike : PySem.W.nsIn K mainGlobals "_law_alike" = some (some (.ref f_alike))) (d_alike : DefF K "_law_alike" "_law_alike" sAlike f_alike)
    (a_parts : PySem.W.nsIn K mainGlobals "_law_parts" = some (some (.ref f_parts))) (d_parts : DefF K "_law_parts" "_law_parts" lParts f_parts)
    (a_simple : PySem.W.nsIn K mainGlobals "_law_simple" = some (some (.ref f_simple))) (d_simple : DefF K "_law_simple" "_law_simple" lSimple f_simple)
    (a_branching : PySem.W.nsIn K mainGlobals "_law_branching" = some (some (.ref f_branching))) (d_branching : DefF K "_law_branching" "_law_branching" lBranching f_branching)
    (a_block : PySem.W.nsIn K mainGlobals "_law_block" = some (some (.ref f_block))) (d_block : DefF K "_law_block" "_law_block" lBlock f_block)
    (a_listed : PySem.W.nsIn K mainGlobals "_law_listed" = some (some (.ref f_listed))) (d_listed : DefF K "_law_listed" "_law_listed" lListed f_listed)
    (a_choices : PySem.W.nsIn K mainGlobals "_law_choices" = some (some (.ref f_choices))) (d_choices : DefF K "_law_choices" "_law_choices" lChoices f_choices)
    (a_after : PySem.W.nsIn K mainGlobals "_law_after" = some (some (.ref f_after))) (d_after : DefF K "_law_after" "_law_after" lAfter f_after)
    (a_out : PySem.W.nsIn K mainGlobals "_law_out" = some (some (.ref f_out))) (d_out : DefF K "_law_out" "_law_out" lOut f_out)
    (a_next : PySem.W.nsIn K mainGlobals "_law_next" = some (some (.ref f_next))) (d_next : DefF K "_law_next" "_law_next" lNext f_next)
    (a_passes : PySem.W.nsIn K mainGlobals "_law_passes" = some (some (.ref f_passes))) (d_passes : DefF K "_law_passes" "_law_passes" lPasses f_passes)
    (a_lfirst : PySem.W.nsIn K mainGlobals "_law_first" = some (some (.ref f_lfirst))) (d_lfirst : DefF K "_law_first" "_law_first" lFirst f_lfirst)
    (a_isInt : PySem.W.nsIn K mainGlobals "is_integer" = some (some (.ref f_isInt))) (d_isInt : DefF K "is_integer" "is_integer" sIsInteger f_isInt)
    (a_isDigit : PySem.W.nsIn K mainGlobals "is_digit" = some (some (.ref f_isDigit))) (d_isDigit : DefF K "is_digit" "is_digit" sIsDigit f_isDigit)
    (a_isName : PySem.W.nsIn K mainGlobals "is_name" = some (some (.ref f_isName))) (d_isName : DefF K "is_name" "is_name" sIsName f_isName)
    (a_isBlock : PySem.W.nsIn K mainGlobals "is_block" = some (some (.ref f_isBlock))) (d_isBlock : DefF K "is_block" "is_block" sIsBlock f_isBlock)
    (a_headOf : PySem.W.nsIn K mainGlobals "head_of" = some (some (.ref f_headOf))) (d_headOf : DefF K "head_of" "head_of" sHeadOf f_headOf)
    (a_isStmt : PySem.W.nsIn K mainGlobals "is_statement" = some (some (.ref f_isStmt))) (d_isStmt : DefF K "is_statement" "is_statement" sIsStatement f_isStmt)
    (a_setTell : PySem.W.nsIn K mainGlobals "_is_set_or_tell" = some (some (.ref f_setTell))) (d_setTell : DefF K "_is_set_or_tell" "_is_set_or_tell" sSetTell f_setTell)
    (a_isHear : PySem.W.nsIn K mainGlobals "_is_hear" = some (some (.ref f_isHear))) (d_isHear : DefF K "_is_hear" "_is_hear" sIsHear f_isHear)
    (a_isWait : PySem.W.nsIn K mainGlobals "_is_wait" = some (some (.ref f_isWait))) (d_isWait : DefF K "_is_wait" "_is_wait" sIsWait f_isWait)
    (a_isRow : PySem.W.nsIn K mainGlobals "_is_row" = some (some (.ref f_isRow))) (d_isRow : DefF K "_is_row" "_is_row" sIsRow f_isRow)
    (a_isOpen : PySem.W.nsIn K mainGlobals "_is_open" = some (some (.ref f_isOpen))) (d_isOpen : DefF K "_is_open" "_is_open" sIsOpen f_isOpen)
    (a_isChoice : PySem.W.nsIn K mainGlobals "_is_choice" = some (some (.ref f_isChoice))) (d_isChoice : DefF K "_is_choice" "_is_choice" sIsChoice f_isChoice)
    (a_isIf : PySem.W.nsIn K mainGlobals "_is_if" = some (some (.ref f_isIf))) (d_isIf : DefF K "_is_if" "_is_if" sIsIf f_isIf)
    (a_isRepeat : PySem.W.nsIn K mainGlobals "_is_repeat" = some (some (.ref f_isRepeat))) (d_isRepeat : DefF K "_is_repeat" "_is_repeat" sIsRepeat f_isRepeat)
    (a_isWord : PySem.W.nsIn K mainGlobals "_is_word" = some (some (.ref f_isWord))) (d_isWord : DefF K "_is_word" "_is_word" sIsWord f_isWord)
    (a_blocksOf : PySem.W.nsIn K mainGlobals "blocks_of" = some (some (.ref f_blocksOf))) (d_blocksOf : DefF K "blocks_of" "blocks_of" sBlocksOf f_blocksOf)
    (a_namesOf : PySem.W.nsIn K mainGlobals "names_of" = some (some (.ref f_namesOf))) (d_namesOf : DefF K "names_of" "names_of" sNames f_namesOf)
    (a_namesIn : PySem.W.nsIn K mainGlobals "_names_in" = some (some (.ref f_namesIn))) (d_namesIn : DefF K "_names_in" "_names_in" sNamesIn f_namesIn)
    (a_portsOf : PySem.W.nsIn K mainGlobals "ports_of" = some (some (.ref f_portsOf))) (d_portsOf : DefF K "ports_of" "ports_of" sPorts f_portsOf)
    (a_first : PySem.W.nsIn K mainGlobals "first_wrong" = some (some (.ref f_first))) (d_first : DefF K "first_wrong" "first_wrong" sFirstWrong f_first)
    (a_isWrong : PySem.W.nsIn K mainGlobals "_is_wrong" = some (some (.ref f_isWrong))) (d_isWrong : DefF K "_is_wrong" "_is_wrong" sIsWrong f_isWrong)
    (a_deals : PySem.W.nsIn K mainGlobals "deals" = some (some (.ref f_deals))) (d_deals : DefF K "deals" "deals" sDeals f_deals)
    (a_isSound : PySem.W.nsIn K mainGlobals "_is_sound" = some (some (.ref f_isSound))) (d_isSound : DefF K "_is_sound" "_is_sound" sIsSound f_isSound)
    (a_quiet : PySem.W.nsIn K mainGlobals "_quiet_ways" = some (some (.ref f_quiet))) (d_quiet : DefF K "_quiet_ways" "_quiet_ways" sQuiet f_quiet)
    (a_quietOf : PySem.W.nsIn K mainGlobals "_quiet_ways_of" = some (some (.ref f_quietOf))) (d_quietOf : DefF K "_quiet_ways_of" "_quiet_ways_of" sQuietOf f_quietOf)
    (a_count : PySem.W.nsIn K mainGlobals "count_statements" = some (some (.ref f_count))) (d_count : DefF K "count_statements" "count_statements" sCount f_count)
    (a_laid : PySem.W.nsIn K mainGlobals "laid_out" = some (some (.ref f_laid))) (d_laid : DefF K "laid_out" "laid_out" sLaid f_laid)
    (a_check : PySem.W.nsIn K mainGlobals "_check" = some (some (.ref f_check))) (d_check : DefF K "_check" "_check" sCheck f_check)
    (aX : PySem.W.nsIn K mainGlobals "is_expression" = some (some (.ref f_expr))) (dX : ∃ fd, ExprF K f_expr fd)
    (aB : PySem.W.nsIn K mainGlobals "BadRoutine" = some (some (.ref hB))) (d1 : ∃ fd1, EInit K f1 fd1) (t0 : PySem.W.typeIn K (.ref f1) = some (.type "function")) (eB : ErrC K f1 hB) (te : PySem.W.exmOne K (.ref hB) (.ref hB) = some true)
    (aRo : PySem.W.nsIn K mainGlobals "Routine" = some (some (.ref hR))) (d_rinit : DefF K "__init__" "Routine.__init__" sRInit f_rinit) (rc : RCls K hR) (mkR : Mk K hR f_rinit)
    (aP : PySem.W.nsIn K mainGlobals "PARTS" = some (some (.ref pk))) (wp : WD K w pk partsK) (aC : PySem.W.nsIn K mainGlobals "CHECKS" = some (some (.ref ck))) (wc : WD K w ck (checksK f_setTell f_isHear f_isWait f_isOpen f_isIf f_isRepeat f_isWord))
    (aK : PySem.W.nsIn K mainGlobals "KEPT_WORDS" = some (some (.ref kw))) (kk : ∃ (o : Obj) (its : Array Value) (n : Nat), K.lookup kw = some o ∧ o.cls = .type "tuple" ∧ o.data = .seq its n ∧ its.size ≤ sizeLine ∧ Vals keptV its.toList)
    (g1 : PySem.W.nsIn K mainGlobals "LONGEST_BLOCK" = some (some (.int 12 t1))) (g2 : PySem.W.nsIn K mainGlobals "DEEPEST_BLOCK" = some (some (.int 12 t2))) (g3 : PySem.W.nsIn K mainGlobals "MOST_STATEMENTS" = some (some (.int 6000 t3))) (g4 : PySem.W.nsIn K mainGlobals "LONGEST_NAME" = some (some (.int 8 t4))) (g5 : PySem.W.nsIn K mainGlobals "MOST_CHOICES" = some (some (.int 4 t5)))
    (z0 : PySem.W.nsIn K mainGlobals "int" = some none) (z1 : PySem.W.nsIn K mainGlobals "len" = some none) (z2 : PySem.W.nsIn K mainGlobals "sum" = some none) (z3 : PySem.W.nsIn K mainGlobals "range" = some none) (z4 : PySem.W.nsIn K mainGlobals "tuple" = some none) (z5 : PySem.W.nsIn K mainGlobals "isinstance" = some none) (z6 : PySem.W.nsIn K mainGlobals "bool" = some none) (z7 : PySem.W.nsIn K mainGlobals "str" = some none) (z8 : PySem.W.nsIn K mainGlobals "list" = some none) (z9 : PySem.W.nsIn K mainGlobals "dict" = some none) (z10 : PySem.W.nsIn K mainGlobals "enumerate" = some none) (z11 : PySem.W.nsIn K mainGlobals "sorted" = some none) (z12 : PySem.W.nsIn K mainGlobals "all" = some none) (z13 : PySem.W.nsIn K mainGlobals "any" = some none) :
    ∃ fd : FuncData, (∀ (s : Shared) (v : Value), BindsTo s fd ⟨[v], []⟩ [("_law_script", v)]) ∧ ∀ base : Heap, K.In base → base.Ns mainGlobals mg → FnOk P w K mg base CX0 131 fa fd ["_law_script"] (spLaw K) := by
  have e := hfa.symm.trans (PySem.W.mg_of X G aL)
  cases e
  have mn_int := PySem.W.mg_none_of X G z0
  have mn_len := PySem.W.mg_none_of X G z1
  have mn_sum := PySem.W.mg_none_of X G z2
  have mn_range := PySem.W.mg_none_of X G z3
  have mn_tuple := PySem.W.mg_none_of X G z4
  have mn_isinstance := PySem.W.mg_none_of X G z5
  have mn_bool := PySem.W.mg_none_of X G z6
  have mn_str := PySem.W.mg_none_of X G z7
  have mn_list := PySem.W.mg_none_of X G z8
  have mn_dict := PySem.W.mg_none_of X G z9
  have mn_enumerate := PySem.W.mg_none_of X G z10
  have mn_sorted := PySem.W.mg_none_of X G z11
  have mn_all := PySem.W.mg_none_of X G z12
  have mn_any := PySem.W.mg_none_of X G z13
  have TA : TxtA mg := ⟨mn_int, mn_len⟩
  have TO : TxtO mg := ⟨TA, mn_range, mn_tuple⟩
  have TI : TxtI mg := ⟨mn_isinstance, mn_bool, mn_int, mn_str, mn_tuple, mn_list, mn_dict, mn_len, mn_range⟩
  have TP : TxtP mg := ⟨TI, ⟨t1, PySem.W.mg_of X G g1⟩, ⟨t2, PySem.W.mg_of X G g2⟩, ⟨t3, PySem.W.mg_of X G g3⟩, mn_sum, mn_enumerate⟩
  have TF : TxtF K mg kw := ⟨TI, mn_all, ⟨t4, PySem.W.mg_of X G g4⟩, ⟨t5, PySem.W.mg_of X G g5⟩, PySem.W.mg_of X G aK, kk⟩
  obtain ⟨fd1, F1⟩ := d1
  obtain ⟨fdX, FX⟩ := dX
  have bX := b_expr2 FX
  obtain ⟨dsX, vX, bX1⟩ := b_expr1 FX
  have mX := PySem.W.mg_of X G aX
  have mB := PySem.W.mg_of X G aB
  have mRo := PySem.W.mg_of X G aRo
  have mP := PySem.W.mg_of X G aP
  have mC := PySem.W.mg_of X G aC
  obtain ⟨fd_source, F_source, _⟩ := d_source.fn
  have b_source : Binds K fd_source ["_law_script"] [] := F_source.binds fun _ _ _ _ _ _ us hl => match us, hl with | [_], _ => rfl
  obtain ⟨fd_mixed, F_mixed, _⟩ := d_mixed.fn
  have b_mixed : Binds K fd_mixed ["_law_number", "_law_count"] [] := F_mixed.binds fun _ _ _ _ _ _ us hl => match us, hl with | [_, _], _ => rfl
  obtain ⟨fd_draw, F_draw, _⟩ := d_draw.fn
  have b_draw : Binds K fd_draw ["_law_source_here", "_law_many"] [] := F_draw.binds fun _ _ _ _ _ _ us hl => match us, hl with | [_, _], _ => rfl
  obtain ⟨fd_alike, F_alike, _⟩ := d_alike.fn
  have b_alike : Binds K fd_alike ["_law_actual", "_law_due"] [] := F_alike.binds fun _ _ _ _ _ _ us hl => match us, hl with | [_, _], _ => rfl
  obtain ⟨fd_parts, F_parts, _⟩ := d_parts.fn
  have b_parts : Binds K fd_parts ["_law_statement"] [] := F_parts.binds fun _ _ _ _ _ _ us hl => match us, hl with | [_], _ => rfl
  obtain ⟨fd_simple, F_simple, _⟩ := d_simple.fn
  have b_simple : Binds K fd_simple ["_law_source_here", "_law_looped"] [] := F_simple.binds fun _ _ _ _ _ _ us hl => match us, hl with | [_, _], _ => rfl
  obtain ⟨fd_branching, F_branching, _⟩ := d_branching.fn
  have b_branching : Binds K fd_branching ["_law_source_here", "_law_room", "_law_depth", "_law_looped"] [] := F_branching.binds fun _ _ _ _ _ _ us hl => match us, hl with | [_, _, _, _], _ => rfl
  obtain ⟨fd_block, F_block, _⟩ := d_block.fn
  have b_block : Binds K fd_block ["_law_source_here", "_law_room", "_law_depth", "_law_looped"] [] := F_block.binds fun _ _ _ _ _ _ us hl => match us, hl with | [_, _, _, _], _ => rfl
  obtain ⟨fd_listed, F_listed, _⟩ := d_listed.fn
  have b_listed : Binds K fd_listed ["_law_block_here", "_law_ahead"] [] := F_listed.binds fun _ _ _ _ _ _ us hl => match us, hl with | [_, _], _ => rfl
  obtain ⟨fd_choices, F_choices, _⟩ := d_choices.fn
  have b_choices : Binds K fd_choices ["_law_rows"] [] := F_choices.binds fun _ _ _ _ _ _ us hl => match us, hl with | [_], _ => rfl
  obtain ⟨fd_after, F_after, _⟩ := d_after.fn
  have b_after : Binds K fd_after ["_law_table", "_law_path"] [] := F_after.binds fun _ _ _ _ _ _ us hl => match us, hl with | [_, _], _ => rfl
  obtain ⟨fd_out, F_out, _⟩ := d_out.fn
  have b_out : Binds K fd_out ["_law_table", "_law_path"] [] := F_out.binds fun _ _ _ _ _ _ us hl => match us, hl with | [_, _], _ => rfl
  obtain ⟨fd_next, F_next, _⟩ := d_next.fn
  have b_next : Binds K fd_next ["_law_table", "_law_choice", "_law_place"] [] := F_next.binds fun _ _ _ _ _ _ us hl => match us, hl with | [_, _, _], _ => rfl
  obtain ⟨fd_passes, F_passes, _⟩ := d_passes.fn
  have b_passes : Binds K fd_passes ["_law_table", "_law_choice", "_law_path"] [] := F_passes.binds fun _ _ _ _ _ _ us hl => match us, hl with | [_, _, _], _ => rfl
  obtain ⟨fd_lfirst, F_lfirst, _⟩ := d_lfirst.fn
  have b_lfirst : Binds K fd_lfirst ["_law_block_here"] [] := F_lfirst.binds fun _ _ _ _ _ _ us hl => match us, hl with | [_], _ => rfl
  obtain ⟨fd_isInt, F_isInt, _⟩ := d_isInt.fn
  have b_isInt : Binds K fd_isInt ["value"] [] := F_isInt.binds fun _ _ _ _ _ _ us hl => match us, hl with | [_], _ => rfl
  obtain ⟨fd_isDigit, F_isDigit, _⟩ := d_isDigit.fn
  have b_isDigit : Binds K fd_isDigit ["value"] [] := F_isDigit.binds fun _ _ _ _ _ _ us hl => match us, hl with | [_], _ => rfl
  obtain ⟨fd_isName, F_isName, _⟩ := d_isName.fn
  have b_isName : Binds K fd_isName ["value"] [] := F_isName.binds fun _ _ _ _ _ _ us hl => match us, hl with | [_], _ => rfl
  obtain ⟨fd_isBlock, F_isBlock, _⟩ := d_isBlock.fn
  have b_isBlock : Binds K fd_isBlock ["value"] [] := F_isBlock.binds fun _ _ _ _ _ _ us hl => match us, hl with | [_], _ => rfl
  obtain ⟨fd_headOf, F_headOf, _⟩ := d_headOf.fn
  have b_headOf : Binds K fd_headOf ["value"] [] := F_headOf.binds fun _ _ _ _ _ _ us hl => match us, hl with | [_], _ => rfl
  obtain ⟨fd_isStmt, F_isStmt, _⟩ := d_isStmt.fn
  have b_isStmt : Binds K fd_isStmt ["value"] [] := F_isStmt.binds fun _ _ _ _ _ _ us hl => match us, hl with | [_], _ => rfl
  obtain ⟨fd_setTell, F_setTell, _⟩ := d_setTell.fn
  have b_setTell : Binds K fd_setTell ["value"] [] := F_setTell.binds fun _ _ _ _ _ _ us hl => match us, hl with | [_], _ => rfl
  obtain ⟨fd_isHear, F_isHear, _⟩ := d_isHear.fn
  have b_isHear : Binds K fd_isHear ["value"] [] := F_isHear.binds fun _ _ _ _ _ _ us hl => match us, hl with | [_], _ => rfl
  obtain ⟨fd_isWait, F_isWait, _⟩ := d_isWait.fn
  have b_isWait : Binds K fd_isWait ["value"] [] := F_isWait.binds fun _ _ _ _ _ _ us hl => match us, hl with | [_], _ => rfl
  obtain ⟨fd_isRow, F_isRow, _⟩ := d_isRow.fn
  have b_isRow : Binds K fd_isRow ["value"] [] := F_isRow.binds fun _ _ _ _ _ _ us hl => match us, hl with | [_], _ => rfl
  obtain ⟨fd_isOpen, F_isOpen, _⟩ := d_isOpen.fn
  have b_isOpen : Binds K fd_isOpen ["value"] [] := F_isOpen.binds fun _ _ _ _ _ _ us hl => match us, hl with | [_], _ => rfl
  obtain ⟨fd_isChoice, F_isChoice, _⟩ := d_isChoice.fn
  have b_isChoice : Binds K fd_isChoice ["value"] [] := F_isChoice.binds fun _ _ _ _ _ _ us hl => match us, hl with | [_], _ => rfl
  obtain ⟨fd_isIf, F_isIf, _⟩ := d_isIf.fn
  have b_isIf : Binds K fd_isIf ["value"] [] := F_isIf.binds fun _ _ _ _ _ _ us hl => match us, hl with | [_], _ => rfl
  obtain ⟨fd_isRepeat, F_isRepeat, _⟩ := d_isRepeat.fn
  have b_isRepeat : Binds K fd_isRepeat ["value"] [] := F_isRepeat.binds fun _ _ _ _ _ _ us hl => match us, hl with | [_], _ => rfl
  obtain ⟨fd_isWord, F_isWord, _⟩ := d_isWord.fn
  have b_isWord : Binds K fd_isWord ["value"] [] := F_isWord.binds fun _ _ _ _ _ _ us hl => match us, hl with | [_], _ => rfl
  obtain ⟨fd_blocksOf, F_blocksOf, _⟩ := d_blocksOf.fn
  have b_blocksOf : Binds K fd_blocksOf ["statement"] [] := F_blocksOf.binds fun _ _ _ _ _ _ us hl => match us, hl with | [_], _ => rfl
  obtain ⟨fd_namesOf, F_namesOf, _⟩ := d_namesOf.fn
  have b_namesOf : Binds K fd_namesOf ["statement"] [] := F_namesOf.binds fun _ _ _ _ _ _ us hl => match us, hl with | [_], _ => rfl
  obtain ⟨fd_namesIn, F_namesIn, _⟩ := d_namesIn.fn
  have b_namesIn : Binds K fd_namesIn ["expression"] [] := F_namesIn.binds fun _ _ _ _ _ _ us hl => match us, hl with | [_], _ => rfl
  obtain ⟨fd_portsOf, F_portsOf, _⟩ := d_portsOf.fn
  have b_portsOf : Binds K fd_portsOf ["statement"] [] := F_portsOf.binds fun _ _ _ _ _ _ us hl => match us, hl with | [_], _ => rfl
  obtain ⟨fd_first, F_first, _⟩ := d_first.fn
  have b_first : Binds K fd_first ["block", "path", "depth", "in_repeat"] [] := F_first.binds fun _ _ _ _ _ _ us hl => match us, hl with | [_, _, _, _], _ => rfl
  obtain ⟨fd_isWrong, F_isWrong, _⟩ := d_isWrong.fn
  have b_isWrong : Binds K fd_isWrong ["item", "depth", "in_repeat"] [] := F_isWrong.binds fun _ _ _ _ _ _ us hl => match us, hl with | [_, _, _], _ => rfl
  obtain ⟨fd_deals, F_deals, _⟩ := d_deals.fn
  have b_deals : Binds K fd_deals ["block", "depth"] [] := F_deals.binds fun _ _ _ _ _ _ us hl => match us, hl with | [_, _], _ => rfl
  obtain ⟨fd_isSound, F_isSound, _⟩ := d_isSound.fn
  have b_isSound : Binds K fd_isSound ["item", "depth"] [] := F_isSound.binds fun _ _ _ _ _ _ us hl => match us, hl with | [_, _], _ => rfl
  obtain ⟨fd_quiet, F_quiet, _⟩ := d_quiet.fn
  have b_quiet : Binds K fd_quiet ["block", "depth"] [] := F_quiet.binds fun _ _ _ _ _ _ us hl => match us, hl with | [_, _], _ => rfl
  obtain ⟨fd_quietOf, F_quietOf, _⟩ := d_quietOf.fn
  have b_quietOf : Binds K fd_quietOf ["item", "depth"] [] := F_quietOf.binds fun _ _ _ _ _ _ us hl => match us, hl with | [_, _], _ => rfl
  obtain ⟨fd_count, F_count, _⟩ := d_count.fn
  have b_count : Binds K fd_count ["block"] [] := F_count.binds fun _ _ _ _ _ _ us hl => match us, hl with | [_], _ => rfl
  obtain ⟨fd_laid, F_laid, _⟩ := d_laid.fn
  have b_laid : Binds K fd_laid ["block", "path", "behind", "outside"] [] := F_laid.binds fun _ _ _ _ _ _ us hl => match us, hl with | [_, _, _, _], _ => rfl
  obtain ⟨fd_check, F_check, _⟩ := d_check.fn
  have b_check : Binds K fd_check ["block"] [] := F_check.binds fun _ _ _ _ _ _ us hl => match us, hl with | [_], _ => rfl
  obtain ⟨fd_rinit, F_rinit, _⟩ := d_rinit.fn
  have b_rinit : Binds K fd_rinit ["self", "block"] [] := F_rinit.binds fun _ _ _ _ _ _ us hl => match us, hl with | [_, _], _ => rfl
  have m_source := PySem.W.mg_of X G a_source
  have m_mixed := PySem.W.mg_of X G a_mixed
  have m_draw := PySem.W.mg_of X G a_draw
  have m_alike := PySem.W.mg_of X G a_alike
  have m_parts := PySem.W.mg_of X G a_parts
  have m_simple := PySem.W.mg_of X G a_simple
  have m_branching := PySem.W.mg_of X G a_branching
  have m_block := PySem.W.mg_of X G a_block
  have m_listed := PySem.W.mg_of X G a_listed
  have m_choices := PySem.W.mg_of X G a_choices
  have m_after := PySem.W.mg_of X G a_after
  have m_out := PySem.W.mg_of X G a_out
  have m_next := PySem.W.mg_of X G a_next
  have m_passes := PySem.W.mg_of X G a_passes
  have m_lfirst := PySem.W.mg_of X G a_lfirst
  have m_isInt := PySem.W.mg_of X G a_isInt
  have m_isDigit := PySem.W.mg_of X G a_isDigit
  have m_isName := PySem.W.mg_of X G a_isName
  have m_isBlock := PySem.W.mg_of X G a_isBlock
  have m_headOf := PySem.W.mg_of X G a_headOf
  have m_isStmt := PySem.W.mg_of X G a_isStmt
  have m_setTell := PySem.W.mg_of X G a_setTell
  have m_isHear := PySem.W.mg_of X G a_isHear
  have m_isWait := PySem.W.mg_of X G a_isWait
  have m_isRow := PySem.W.mg_of X G a_isRow
  have m_isOpen := PySem.W.mg_of X G a_isOpen
  have m_isChoice := PySem.W.mg_of X G a_isChoice
  have m_isIf := PySem.W.mg_of X G a_isIf
  have m_isRepeat := PySem.W.mg_of X G a_isRepeat
  have m_isWord := PySem.W.mg_of X G a_isWord
  have m_blocksOf := PySem.W.mg_of X G a_blocksOf
  have m_namesOf := PySem.W.mg_of X G a_namesOf
  have m_namesIn := PySem.W.mg_of X G a_namesIn
  have m_portsOf := PySem.W.mg_of X G a_portsOf
  have m_first := PySem.W.mg_of X G a_first
  have m_isWrong := PySem.W.mg_of X G a_isWrong
  have m_deals := PySem.W.mg_of X G a_deals
  have m_isSound := PySem.W.mg_of X G a_isSound
  have m_quiet := PySem.W.mg_of X G a_quiet
  have m_quietOf := PySem.W.mg_of X G a_quietOf
  have m_count := PySem.W.mg_of X G a_count
  have m_laid := PySem.W.mg_of X G a_laid
  have m_check := PySem.W.mg_of X G a_check
  obtain ⟨fdL, FL, kVL, dcL, pmL, anL, cdL, ctL, rfl⟩ := dL.fn
  refine ⟨PySem.W.fnOf "law" "law" (defArgs sLaw) (defBody sLaw) (defScope sLaw) .none kVL dcL pmL anL cdL ctL, fun s v => .of_eq rfl, fun base _ _ => ?_⟩
  have G_draw : FnOk P w K mg base CX0 2 f_draw fd_draw ["_law_source_here", "_law_many"] (spDraw) := ok_draw F_draw TA F_mixed b_mixed m_mixed
  have G_isInt : FnOk P w K mg base CX0 1 f_isInt fd_isInt ["value"] (spB K intB) := ok_isInteger F_isInt TI
  have G_isDigit : FnOk P w K mg base CX0 2 f_isDigit fd_isDigit ["value"] (spB K digitB) := ok_isDigit F_isDigit G_isInt F_isInt.kp b_isInt m_isInt
  have G_isName : FnOk P w K mg base CX0 1 f_isName fd_isName ["value"] (spB K nameB) := ok_isName F_isName TF
  have G_headOf : FnOk P w K mg base CX0 1 f_headOf fd_headOf ["value"] (spHd K) := ok_headOfD F_headOf TI
  have G_isBlock : FnOk P w K mg base CX0 1 f_isBlock fd_isBlock ["value"] (spB K blockB) := ok_isBlockD F_isBlock TP
  have G_isChoice : FnOk P w K mg base CX0 1 f_isChoice fd_isChoice ["value"] (spB K choiceB) := ok_isChoice F_isChoice TF
  have GX : FnOk P w K mg base CX0 7 f_expr fdX ["value", "deepest"] (spExpr K 4) := ok_expr FX TF G_isDigit F_isDigit.kp b_isDigit m_isDigit G_headOf F_headOf.kp b_headOf m_headOf G_isName F_isName.kp b_isName m_isName mP wp mX bX 4
  have C_setTell : Chk P w K mg base f_setTell setTellB := ⟨⟨fd_setTell, ok_setTell F_setTell TF G_isName F_isName.kp b_isName m_isName GX FX.kp vX bX1 mX, b_setTell⟩, F_setTell.kp⟩
  have C_isHear : Chk P w K mg base f_isHear hearB := ⟨⟨fd_isHear, ok_isHear F_isHear TF G_isName F_isName.kp b_isName m_isName, b_isHear⟩, F_isHear.kp⟩
  have G_isRow : FnOk P w K mg base CX0 2 f_isRow fd_isRow ["value"] (spB K rowB) := ok_isRow F_isRow TF G_isName F_isName.kp b_isName m_isName G_isBlock F_isBlock.kp b_isBlock m_isBlock
  have C_isWait : Chk P w K mg base f_isWait waitB := ⟨⟨fd_isWait, ok_isWait F_isWait TF G_isChoice F_isChoice.kp b_isChoice m_isChoice G_isRow F_isRow.kp b_isRow m_isRow, b_isWait⟩, F_isWait.kp⟩
  have C_isOpen : Chk P w K mg base f_isOpen openB := ⟨⟨fd_isOpen, ok_isOpen F_isOpen TF G_isBlock F_isBlock.kp b_isBlock m_isBlock G_isChoice F_isChoice.kp b_isChoice m_isChoice, b_isOpen⟩, F_isOpen.kp⟩
  have C_isIf : Chk P w K mg base f_isIf ifB := ⟨⟨fd_isIf, ok_isIf F_isIf TF G_isBlock F_isBlock.kp b_isBlock m_isBlock GX FX.kp vX bX1 mX, b_isIf⟩, F_isIf.kp⟩
  have C_isRepeat : Chk P w K mg base f_isRepeat repeatB := ⟨⟨fd_isRepeat, ok_isRepeat F_isRepeat TF G_isBlock F_isBlock.kp b_isBlock m_isBlock, b_isRepeat⟩, F_isRepeat.kp⟩
  have C_isWord : Chk P w K mg base f_isWord wordB := ⟨⟨fd_isWord, ok_isWordD F_isWord TF, b_isWord⟩, F_isWord.kp⟩
  have G_isStmt : FnOk P w K mg base CX0 9 f_isStmt fd_isStmt ["value"] (spB K stmtB) := ok_isStatementD F_isStmt G_headOf F_headOf.kp b_headOf m_headOf mC wc C_setTell C_isHear C_isWait C_isOpen C_isIf C_isRepeat C_isWord
  have G_blocksOf : FnOk P w K mg base CX0 1 f_blocksOf fd_blocksOf ["statement"] (spBlocks K) := ok_blocksD F_blocksOf TI
  have G_isSound : FnOk P w K mg base CX0 10 f_isSound fd_isSound ["item", "depth"] (spSoundD K) := ok_isSoundD F_isSound TP G_isStmt F_isStmt.kp b_isStmt m_isStmt G_blocksOf F_blocksOf.kp b_blocksOf m_blocksOf
  have G_quiet : ∀ f, FnOk P w K mg base CX0 (12 + 2 * f) f_quiet fd_quiet ["block", "depth"] (spQuiet K f) := ok_quiet F_quietOf F_quiet mn_any G_isSound F_isSound.kp b_isSound m_isSound G_blocksOf F_blocksOf.kp b_blocksOf m_blocksOf b_quiet m_quiet b_quietOf m_quietOf
  have G_first : FnOk P w K mg base CX0 35 f_first fd_first ["block", "path", "depth", "in_repeat"] (spFirstD K 11) := ok_firstD F_first TP F_isWrong G_isSound F_isSound.kp b_isSound m_isSound G_quiet F_quiet.kp b_quiet m_quiet F_deals b_deals m_deals b_isWrong m_isWrong G_blocksOf F_blocksOf.kp b_blocksOf m_blocksOf b_first m_first 11
  have G_count : FnOk P w K mg base CX0 13 f_count fd_count ["block"] (spCountD K 11) := ok_countD F_count TP G_blocksOf F_blocksOf.kp b_blocksOf m_blocksOf b_count m_count 11
  have G_laid : FnOk P w K mg base CX0 13 f_laid fd_laid ["block", "path", "behind", "outside"] (spLay K 11) := ok_layD F_laid TP G_blocksOf F_blocksOf.kp b_blocksOf m_blocksOf b_laid m_laid 11
  have G_namesIn : FnOk P w K mg base CX0 7 f_namesIn fd_namesIn ["expression"] (spNamesX K 4) := ok_namesIn F_namesIn G_isDigit F_isDigit.kp b_isDigit m_isDigit b_namesIn m_namesIn 4 (by omega)
  have G_namesOf : FnOk P w K mg base CX0 8 f_namesOf fd_namesOf ["statement"] (spStrs K namesB) := ok_namesD F_namesOf G_namesIn F_namesIn.kp b_namesIn m_namesIn
  have G_portsOf : FnOk P w K mg base CX0 1 f_portsOf fd_portsOf ["statement"] (spStrs K portsB) := ok_portsD F_portsOf
  have G_check : FnOk P w K mg base (L2.CX P w) 36 f_check fd_check ["block"] (spCheckD K hB) := ok_checkD F_check TP eB t0 F1 mB G_isBlock F_isBlock.kp b_isBlock m_isBlock G_first F_first.kp b_first m_first G_count F_count.kp b_count m_count
  have G_rinit : FnOk P w K mg base (L2.CX P w) 37 f_rinit fd_rinit ["self", "block"] (spInitD K hR hB) := ok_rinitD F_rinit rc mn_sorted G_check F_check.kp b_check m_check G_laid F_laid.kp b_laid m_laid G_namesOf F_namesOf.kp b_namesOf m_namesOf G_portsOf F_portsOf.kp b_portsOf m_portsOf
  have G_alike : FnOk P w K mg base CX0 130 f_alike fd_alike ["_law_actual", "_law_due"] (spAlike K 128) := ok_alike F_alike TI m_alike b_alike 128
  have G_parts : FnOk P w K mg base CX0 1 f_parts fd_parts ["_law_statement"] (spBlocks K) := ok_parts F_parts TI
  have G_simple : FnOk P w K mg base CX0 3 f_simple fd_simple ["_law_source_here", "_law_looped"] (spSimp4 K) := ok_simp4 F_simple G_draw F_draw.kp b_draw m_draw
  have G_block : FnOk P w K mg base CX0 14 f_block fd_block ["_law_source_here", "_law_room", "_law_depth", "_law_looped"] (fun vs H Q E => ∃ n, n ≤ 5 ∧ spBlk4 K n vs H Q E) := FnOk_any fun n hn => (ok_blk4 F_block F_branching TO G_draw F_draw.kp b_draw m_draw G_simple F_simple.kp b_simple m_simple b_block m_block b_branching m_branching n).mono (by omega)
  have G_listed : FnOk P w K mg base CX0 9 f_listed fd_listed ["_law_block_here", "_law_ahead"] (spList K 7) := ok_listed F_listed TO G_parts F_parts.kp b_parts m_parts m_listed b_listed 7
  have G_choices : FnOk P w K mg base CX0 2 f_choices fd_choices ["_law_rows"] (spCho K) := ok_choices F_choices TO G_parts F_parts.kp b_parts m_parts
  have G_after : FnOk P w K mg base CX0 1 f_after fd_after ["_law_table", "_law_path"] (spAft K) := ok_after F_after TO
  have G_out : FnOk P w K mg base CX0 1 f_out fd_out ["_law_table", "_law_path"] (spOut K) := ok_out F_out
  have G_next : FnOk P w K mg base CX0 2 f_next fd_next ["_law_table", "_law_choice", "_law_place"] (spNxt K) := ok_next4 F_next G_after F_after.kp b_after m_after G_out F_out.kp b_out m_out
  have G_passes : FnOk P w K mg base CX0 3 f_passes fd_passes ["_law_table", "_law_choice", "_law_path"] (spPas K) := ok_passes F_passes TO G_next F_next.kp b_next m_next
  have G_lfirst : FnOk P w K mg base CX0 10 f_lfirst fd_lfirst ["_law_block_here"] (spFst K 7) := ok_first4 (M := 7) F_lfirst (by decide) G_listed F_listed.kp b_listed m_listed G_choices F_choices.kp b_choices m_choices G_passes F_passes.kp b_passes m_passes
  exact ok_law FL ⟨⟨f_source, fd_source, ok_source F_source TA mn_sum, F_source.kp, b_source, m_source⟩⟩ ⟨⟨f_draw, fd_draw, G_draw, F_draw.kp, b_draw, m_draw⟩⟩ ⟨⟨f_block, fd_block, G_block, F_block.kp, b_block, m_block⟩⟩ ⟨⟨f_lfirst, fd_lfirst, G_lfirst, F_lfirst.kp, b_lfirst, m_lfirst⟩⟩ rc mkR G_rinit b_rinit mRo mB eB te G_alike F_alike.kp b_alike m_alike
end Oh
namespace Oh
open PySem PySem.Spec PyProof.Rows L2
theorem walk {l : PySem.W.OpenLaw} {q : Program} {loose : List Str} {XP : (Str → Option Value) → Heap → Prop} {YP : World → Heap → Prop} {d : DefRec} {K : Params → PySem.W.Frag} (hn : l.most = some 63) (hdf : d.params.defaults = [])
    (hY : ∀ (w : World) (h : Heap), YP w h → (K w.params).In h)
    (F : ∀ (w : World) (mg : Str → Option Value) (fa : Addr) (h : Heap), (K w.params).In h → h.Ns mainGlobals mg → mg d.name = some (.ref fa) →
      ∃ fd : FuncData, (∀ (s : Shared) (u : Value), BindsTo s fd ⟨[u], []⟩ [("_law_script", u)]) ∧ ∀ base : Heap, (K w.params).In base → base.Ns mainGlobals mg → FnOk l.prog w (K w.params) mg base CX0 131 fa fd ["_law_script"] (spLaw (K w.params))) :
    PySem.W.WalkO q loose XP YP l.row.toRowW d [] (fun f vs => PySem.call f vs) :=
  L2.walk_of (n := 63) (k := 131) (x := "_law_script") (CX := fun _ => CX0) (sp := fun w => spLaw (K w.params)) hn (by decide) hdf ⟨rfl, by decide, by decide⟩ hY F (fun _ _ a ns hl _ hS => ⟨a, ns, rfl, hS, hl, fun _ => rfl⟩) fun _ _ _ _ _ z => z
end Oh
open PySem PySem.W PyProof.Rows L2
set_option maxRecDepth 100000 in
set_option maxHeartbeats 0 in
theorem PySem.Challenge.cw_onlyheard_k04_whole_repeats_deal_holds : PySem.Challenge.rw_onlyheard_k04_whole_repeats_deal.Holds := by
  w_on; o_law; k_head; (case hw => w_witness2)
  k_fill
  refine Oh.walk (l := PySem.Challenge.rw_onlyheard_k04_whole_repeats_deal) rfl rfl (fun w h Y => PySem.W.kIn_of Y) ?F
  case F =>
    intro w mg fa h KX G hmg
    refine' Oh.all_mk KX G hmg ?aL ?dL ?a_source ?d_source ?a_mixed ?d_mixed ?a_draw ?d_draw ?a_alike ?d_alike ?a_parts ?d_parts ?a_simple ?d_simple ?a_branching ?d_branching ?a_block ?d_block ?a_listed ?d_listed ?a_choices ?d_choices ?a_after ?d_after ?a_out ?d_out ?a_next ?d_next ?a_passes ?d_passes ?a_lfirst ?d_lfirst ?a_isInt ?d_isInt ?a_isDigit ?d_isDigit ?a_isName ?d_isName ?a_isBlock ?d_isBlock ?a_headOf ?d_headOf ?a_isStmt ?d_isStmt ?a_setTell ?d_setTell ?a_isHear ?d_isHear ?a_isWait ?d_isWait ?a_isRow ?d_isRow ?a_isOpen ?d_isOpen ?a_isChoice ?d_isChoice ?a_isIf ?d_isIf ?a_isRepeat ?d_isRepeat ?a_isWord ?d_isWord ?a_blocksOf ?d_blocksOf ?a_namesOf ?d_namesOf ?a_namesIn ?d_namesIn ?a_portsOf ?d_portsOf ?a_first ?d_first ?a_isWrong ?d_isWrong ?a_deals ?d_deals ?a_isSound ?d_isSound ?a_quiet ?d_quiet ?a_quietOf ?d_quietOf ?a_count ?d_count ?a_laid ?d_laid ?a_check ?d_check ?aX ?dX ?aB ?d1 ?t0 ?eB ?te ?aRo ?d_rinit ?rc ?mkR ?aP ?wp ?aC ?wc ?aK ?kk ?g1 ?g2 ?g3 ?g4 ?g5 ?z0 ?z1 ?z2 ?z3 ?z4 ?z5 ?z6 ?z7 ?z8 ?z9 ?z10 ?z11 ?z12 ?z13
    (case aL => k_is)
    (case a_source => k_is)
    (case a_mixed => k_is)
    (case a_draw => k_is)
    (case a_alike => k_is)
    (case a_parts => k_is)
    (case a_simple => k_is)
    (case a_branching => k_is)
    (case a_block => k_is)
    (case a_listed => k_is)
    (case a_choices => k_is)
    (case a_after => k_is)
    (case a_out => k_is)
    (case a_next => k_is)
    (case a_passes => k_is)
    (case a_lfirst => k_is)
    (case a_isInt => k_is)
    (case a_isDigit => k_is)
    (case a_isName => k_is)
    (case a_isBlock => k_is)
    (case a_headOf => k_is)
    (case a_isStmt => k_is)
    (case a_setTell => k_is)
    (case a_isHear => k_is)
    (case a_isWait => k_is)
    (case a_isRow => k_is)
    (case a_isOpen => k_is)
    (case a_isChoice => k_is)
    (case a_isIf => k_is)
    (case a_isRepeat => k_is)
    (case a_isWord => k_is)
    (case a_blocksOf => k_is)
    (case a_namesOf => k_is)
    (case a_namesIn => k_is)
    (case a_portsOf => k_is)
    (case a_first => k_is)
    (case a_isWrong => k_is)
    (case a_deals => k_is)
    (case a_isSound => k_is)
    (case a_quiet => k_is)
    (case a_quietOf => k_is)
    (case a_count => k_is)
    (case a_laid => k_is)
    (case a_check => k_is)
    (case aX => k_is)
    (case aB => k_is)
    (case aRo => k_is)
    (case aP => k_is)
    (case aC => k_is)
    (case aK => k_is)
    (case g1 => k_is)
    (case g2 => k_is)
    (case g3 => k_is)
    (case g4 => k_is)
    (case g5 => k_is)
    (case z0 => k_is)
    (case z1 => k_is)
    (case z2 => k_is)
    (case z3 => k_is)
    (case z4 => k_is)
    (case z5 => k_is)
    (case z6 => k_is)
    (case z7 => k_is)
    (case z8 => k_is)
    (case z9 => k_is)
    (case z10 => k_is)
    (case z11 => k_is)
    (case z12 => k_is)
    (case z13 => k_is)
    (case mkR => refine' ⟨?p1, ?p2, ?p3, ?p4⟩; (case p1 => k_is); (case p2 => k_is); (case p3 => k_is); (case p4 => k_is))
    (case eB => refine' Oh.err_mk ?xL ?rf ?sa ?ex ?ty ?kC ?ga ?gg ?hd ?ha ?hn ?ht ?hm ?no ?ini; (case xL => k_is); (case rf => decide +kernel); (case sa => k_is); (case ex => k_is); (case ty => k_is); (case kC => k_is); (case ga => k_is); (case gg => k_is); (case hd => k_is); (case ha => k_is); (case hn => k_is); (case ht => k_is); (case hm => k_is); (case no => k_is); (case ini => k_is))
    (case dL => refine' Oh.def_mk ?l ?c ?k; (case l => k_is); (case c => k_is); (case k => k_is))
    (case d_source => refine' Oh.def_mk ?l ?c ?k; (case l => k_is); (case c => k_is); (case k => k_is))
    (case d_mixed => refine' Oh.def_mk ?l ?c ?k; (case l => k_is); (case c => k_is); (case k => k_is))
    (case d_draw => refine' Oh.def_mk ?l ?c ?k; (case l => k_is); (case c => k_is); (case k => k_is))
    (case d_alike => refine' Oh.def_mk ?l ?c ?k; (case l => k_is); (case c => k_is); (case k => k_is))
    (case d_parts => refine' Oh.def_mk ?l ?c ?k; (case l => k_is); (case c => k_is); (case k => k_is))
    (case d_simple => refine' Oh.def_mk ?l ?c ?k; (case l => k_is); (case c => k_is); (case k => k_is))
    (case d_branching => refine' Oh.def_mk ?l ?c ?k; (case l => k_is); (case c => k_is); (case k => k_is))
    (case d_block => refine' Oh.def_mk ?l ?c ?k; (case l => k_is); (case c => k_is); (case k => k_is))
    (case d_listed => refine' Oh.def_mk ?l ?c ?k; (case l => k_is); (case c => k_is); (case k => k_is))
    (case d_choices => refine' Oh.def_mk ?l ?c ?k; (case l => k_is); (case c => k_is); (case k => k_is))
    (case d_after => refine' Oh.def_mk ?l ?c ?k; (case l => k_is); (case c => k_is); (case k => k_is))
    (case d_out => refine' Oh.def_mk ?l ?c ?k; (case l => k_is); (case c => k_is); (case k => k_is))
    (case d_next => refine' Oh.def_mk ?l ?c ?k; (case l => k_is); (case c => k_is); (case k => k_is))
    (case d_passes => refine' Oh.def_mk ?l ?c ?k; (case l => k_is); (case c => k_is); (case k => k_is))
    (case d_lfirst => refine' Oh.def_mk ?l ?c ?k; (case l => k_is); (case c => k_is); (case k => k_is))
    (case d_isInt => refine' Oh.def_mk ?l ?c ?k; (case l => k_is); (case c => k_is); (case k => k_is))
    (case d_isDigit => refine' Oh.def_mk ?l ?c ?k; (case l => k_is); (case c => k_is); (case k => k_is))
    (case d_isName => refine' Oh.def_mk ?l ?c ?k; (case l => k_is); (case c => k_is); (case k => k_is))
    (case d_isBlock => refine' Oh.def_mk ?l ?c ?k; (case l => k_is); (case c => k_is); (case k => k_is))
    (case d_headOf => refine' Oh.def_mk ?l ?c ?k; (case l => k_is); (case c => k_is); (case k => k_is))
    (case d_isStmt => refine' Oh.def_mk ?l ?c ?k; (case l => k_is); (case c => k_is); (case k => k_is))
    (case d_setTell => refine' Oh.def_mk ?l ?c ?k; (case l => k_is); (case c => k_is); (case k => k_is))
    (case d_isHear => refine' Oh.def_mk ?l ?c ?k; (case l => k_is); (case c => k_is); (case k => k_is))
    (case d_isWait => refine' Oh.def_mk ?l ?c ?k; (case l => k_is); (case c => k_is); (case k => k_is))
    (case d_isRow => refine' Oh.def_mk ?l ?c ?k; (case l => k_is); (case c => k_is); (case k => k_is))
    (case d_isOpen => refine' Oh.def_mk ?l ?c ?k; (case l => k_is); (case c => k_is); (case k => k_is))
    (case d_isChoice => refine' Oh.def_mk ?l ?c ?k; (case l => k_is); (case c => k_is); (case k => k_is))
    (case d_isIf => refine' Oh.def_mk ?l ?c ?k; (case l => k_is); (case c => k_is); (case k => k_is))
    (case d_isRepeat => refine' Oh.def_mk ?l ?c ?k; (case l => k_is); (case c => k_is); (case k => k_is))
    (case d_isWord => refine' Oh.def_mk ?l ?c ?k; (case l => k_is); (case c => k_is); (case k => k_is))
    (case d_blocksOf => refine' Oh.def_mk ?l ?c ?k; (case l => k_is); (case c => k_is); (case k => k_is))
    (case d_namesOf => refine' Oh.def_mk ?l ?c ?k; (case l => k_is); (case c => k_is); (case k => k_is))
    (case d_namesIn => refine' Oh.def_mk ?l ?c ?k; (case l => k_is); (case c => k_is); (case k => k_is))
    (case d_portsOf => refine' Oh.def_mk ?l ?c ?k; (case l => k_is); (case c => k_is); (case k => k_is))
    (case d_first => refine' Oh.def_mk ?l ?c ?k; (case l => k_is); (case c => k_is); (case k => k_is))
    (case d_isWrong => refine' Oh.def_mk ?l ?c ?k; (case l => k_is); (case c => k_is); (case k => k_is))
    (case d_deals => refine' Oh.def_mk ?l ?c ?k; (case l => k_is); (case c => k_is); (case k => k_is))
    (case d_isSound => refine' Oh.def_mk ?l ?c ?k; (case l => k_is); (case c => k_is); (case k => k_is))
    (case d_quiet => refine' Oh.def_mk ?l ?c ?k; (case l => k_is); (case c => k_is); (case k => k_is))
    (case d_quietOf => refine' Oh.def_mk ?l ?c ?k; (case l => k_is); (case c => k_is); (case k => k_is))
    (case d_count => refine' Oh.def_mk ?l ?c ?k; (case l => k_is); (case c => k_is); (case k => k_is))
    (case d_laid => refine' Oh.def_mk ?l ?c ?k; (case l => k_is); (case c => k_is); (case k => k_is))
    (case d_check => refine' Oh.def_mk ?l ?c ?k; (case l => k_is); (case c => k_is); (case k => k_is))
    (case d_rinit => refine' Oh.def_mk ?l ?c ?k; (case l => k_is); (case c => k_is); (case k => k_is))
    (case dX => refine' Oh.expr_mk ?l ?c ?tl ?od ?k; (case l => k_is); (case c => k_is); (case tl => k_is); (case od => rfl); (case k => k_is))
    (case t0 => k_is)
    (case d1 => refine' Oh.einit_mk ?l ?c ?tl ?od ?k; (case l => k_is); (case c => k_is); (case tl => k_is); (case od => rfl); (case k => k_is))
    (case te => first | k_is | exact exm_ref (by k_is) (by k_is) (by k_is) (by k_is))
    (case rc => refine' ⟨⟨?p1, ?p2, ?p3, ?p4⟩, ?p5, ?p6, ?p7, ?p8, ?p9⟩; (case p1 => k_is); (case p2 => k_is); (case p3 => k_is); (case p4 => k_is); (case p5 => (unfold L2.NoAttr; k_is)); (case p6 => (unfold L2.NoAttr; k_is)); (case p7 => (unfold L2.NoAttr; k_is)); (case p8 => (unfold L2.NoAttr; k_is)); (case p9 => (unfold L2.NoAttr; k_is)))
    (case wp => refine' Oh.parts_mk ?l ?kl ?hk ?lo ?v0 ?v1 ?v2 ?v3 ?v4; (case l => k_is); (case kl => exact ⟨⟨_, _, rfl, rfl⟩, ⟨_, _, rfl, rfl⟩, ⟨_, _, rfl, rfl⟩, ⟨_, _, rfl, rfl⟩, ⟨_, _, rfl, rfl⟩, trivial⟩); (case hk => rfl); (case lo => decide +kernel); (case v0 => k_is); (case v1 => k_is); (case v2 => k_is); (case v3 => k_is); (case v4 => k_is))
    (case wc => refine' Oh.checks_mk ?l ?kl ?hk ?lo ?v0 ?v1 ?v2 ?v3 ?v4 ?v5 ?v6 ?v7 ?v8 ?v9; (case l => k_is); (case kl => exact ⟨⟨_, _, rfl, rfl⟩, ⟨_, _, rfl, rfl⟩, ⟨_, _, rfl, rfl⟩, ⟨_, _, rfl, rfl⟩, ⟨_, _, rfl, rfl⟩, ⟨_, _, rfl, rfl⟩, ⟨_, _, rfl, rfl⟩, ⟨_, _, rfl, rfl⟩, ⟨_, _, rfl, rfl⟩, ⟨_, _, rfl, rfl⟩, trivial⟩); (case hk => rfl); (case lo => decide +kernel); (case v0 => k_is); (case v1 => k_is); (case v2 => k_is); (case v3 => k_is); (case v4 => k_is); (case v5 => k_is); (case v6 => k_is); (case v7 => k_is); (case v8 => k_is); (case v9 => k_is))
    (case kk => refine' Oh.kept_mk ?l ?c ?d ?z ?v; (case l => k_is); (case c => rfl); (case d => rfl); (case z => decide +kernel); (case v => exact .cons ⟨_, rfl⟩ (.cons ⟨_, rfl⟩ (.cons ⟨_, rfl⟩ (.cons ⟨_, rfl⟩ (.cons ⟨_, rfl⟩ (.cons ⟨_, rfl⟩ (.cons ⟨_, rfl⟩ (.cons ⟨_, rfl⟩ (.cons ⟨_, rfl⟩ (.cons ⟨_, rfl⟩ (.cons ⟨_, rfl⟩ (.cons ⟨_, rfl⟩ (.cons ⟨_, rfl⟩ (.cons ⟨_, rfl⟩ (.cons ⟨_, rfl⟩ (.cons ⟨_, rfl⟩ (.cons ⟨_, rfl⟩ (.cons ⟨_, rfl⟩ (.cons ⟨_, rfl⟩ (.cons ⟨_, rfl⟩ (.cons ⟨_, rfl⟩ (.cons ⟨_, rfl⟩ .nil)))))))))))))))))))))))
