import PyProof.Rows.All
import Wide.All
import OpenK.AllK
import Wide.FinOn
import HandS.ForExc
import HandS.ExcInit
import HandS.ExcIs
import HandS.ExcField
import HandS.Defaults
import HandS.IsInst
import HandS.Comp
import HandS.Dict
import HandS.Iter
import HandS.Text
import HandS.Conv
import HandS.Wide
import HandS.TupAny
import HandS.Flow
import HandS.WordsDict
import PySem.Challenge.RW_onlyheard_k01_error_classes
import HandS.MakeKwOnly
import HandS.MakeKw
import HandS.Set
import HandS.Strs
import HandS.SetBool
import HandS.DictComp
import PyProof.EnumMake
import PyProof.Draws
import KE.GoesMore
import HandS.More
import HandS.WrittenGet
import HandS.CallLocal
import HandS.Walk
import HandS.List
import PyProof.InstNe
import HandS.OwnEq
set_option Elab.async false
set_option linter.all false
set_option maxRecDepth 100000
set_option maxHeartbeats 4000000
/-! Exceptions of own classes as plain values: made, asked by isinstance, their attribute read. -/
namespace EV
open PySem PySem.W PySem.Spec PySem.Calls PyProof.Rows
section
variable {prog : Program} {w : World} {A : Around} {E : Value → Shared → Prop} {s : Shared} {K : Frag} {x D : Addr} {ox : Obj} {od : Option Obj}
theorem found_cls {a g : Value} {nm : Str} (c : (clsIn K D).isSome = true) (e1 : findIn K (.ref D) nm = some (some a)) (e2 : specialIn K a "__get__" = some (some g)) (e3 : takesIn K a = some true) :
    findObj K D od nm = some (.bind g a) := by
  obtain ⟨cd, ec⟩ := Option.isSome_iff_exists.mp c
  unfold findObj
  rw [ec, Option.bind_some, e1, Option.bind_some]
  simp [e2, e3]
theorem cls_asked {Q : Option Value → Shared → Prop} (c : L2.ExcC K D) (X : K.In s.heap) (I : InstAt s.heap x ox D od) (h : Q (some (.ref D)) { s with toks := s.toks + 1 }) :
    wpAny (model prog w) A (getAttr? (.ref x) "__class__") Q E s := by
  obtain ⟨hga, hgt, hsub, hdct, ha, hn, htk, hm⟩ := c
  have ff : findObj K D od "__class__" = some (.bind (.builtin "getset_descriptor.__get__") (.builtin "object.__class__")) :=
    found_cls (by obtain ⟨cd, hc, _⟩ := any_some hdct; rw [hc]; rfl) ha hn htk
  obtain ⟨hp, g, d, t, os⟩ := s
  have lT := I.type (M := model prog w)
  have lA := looks_findIn (M := model prog w) X hga
  have lB := looks_findIn (M := model prog w) X hgt
  have lF := looks_find (M := model prog w) X I ff
  have isB : Looks (model prog w) hp (isInstance (.ref x) (.type "BaseException")) true := lT.andThen (looks_subIn X hsub)
  have z2 : (Value.builtin "BaseException.__getattribute__" == Value.builtin "object.__getattribute__") = false := by decide +kernel
  have z1 : (onTheHeap (Value.ref D) && Value.builtin "BaseException.__getattribute__" == Value.builtin "object.__getattribute__") = false := by rw [z2]; rfl
  have z0 : (false && onTheHeap (Value.builtin "BaseException.__getattribute__")) = false := rfl
  unfold getAttr? getAttrBy? getAttrBy
  refine wpAny_bind (wpAny_mkText (wpAny_bind (wpAny_attempt (wpAny_holding (wpAny_bind (lT.at (wpAny_bind (lA.at ?_))))))))
  show wpAny _ _ (if (onTheHeap (Value.ref D) && Value.builtin "BaseException.__getattribute__" == Value.builtin "object.__getattribute__") = true then _ else _) _ _ _
  rw [z1, if_neg Bool.false_ne_true]
  unfold getAttrByItsOwn hookBefore
  refine wpAny_bind ?_
  rw [if_pos (show onTheHeap (Value.ref D) = true from rfl)]
  refine lB.at (wpAny_bind (wpAny_attempt (wpAny_holding ?_)))
  unfold callGetattribute
  rw [z0, if_neg Bool.false_ne_true]
  unfold boundAndCalled
  rw [PySem.F.excAttr_ValueError.ga.bind (.ref x)]
  refine wpAny_bind (wpAny_pure ?_)
  show wpAny _ _ (call (.builtin "BaseException.__getattribute__") [.ref x, .str "__class__" t]) _ _ _
  refine wpAny_call (codeAny_call_builtin PySem.F.excAttr_ValueError.ga.plain PySem.F.entry_bexc_ga ?_)
  refine @check_slot (model prog w) _ _ ⟨hp, g, d, t + 1, os⟩ "BaseException.__getattribute__" "BaseException" "__getattribute__" (.ref x) [.str "__class__" t] [] _
    (by decide +kernel) (by decide +kernel) isB (PySem.F.args_bexc_ga (.ref x) (.str "__class__" t)) ?_
  unfold Builtin.«object.__getattribute__»
  refine wpAny_bind (wpAny_of_eq (a := ((Value.ref x : Value), [Value.str "__class__" t])) (by first | rfl | (simp only [slotArgs]; rfl)) ?_)
  refine wpAny_bind (wpAny_pure (wpAny_bind (lT.at (wpAny_bind (lF.at ?_)))))
  show wpAny _ _ (holding [Value.builtin "object.__class__"] (call (.builtin "getset_descriptor.__get__") [.builtin "object.__class__", .ref x, .ref D]) >>= ret) _ _ _
  refine wpAny_bind (wpAny_holding (wpAny_call (class_get (s := ⟨hp, g, d, t + 1, os⟩) (ox := ox) (od := od) X I hm (wpAny_pure ?_))))
  show wpAny _ _ (handedOut (.ref D)) _ _ _
  rw [handedOut_of (v := .ref D) rfl]
  first
    | exact wpAny_pure (wpAny_pure h)
    | exact wpAny_pure h
    | exact wpAny_pure (wpAny_bind (wpAny_pure (wpAny_pure h)))
theorem kit_exc (c : L2.ExcC K D) : KitX K (.ref x) (.ref D) (fun h => ∃ ox od, InstAt h x ox D od) where
  ty := fun _ _ _ ⟨_, _, I⟩ => I.type
  it := fun _ _ X _ => by
    obtain ⟨cdD, hcD, _⟩ := any_some c.hd
    unfold clsIn at hcD
    split at hcD
    · rename_i c' d' cd' sl' ho
      intro A' Q' E' s' k q
      unfold isType loadHead
      exact wpAny_bind (wpAny_loadPart (k _ _ (X _ _ ho)) (wpAny_pure q))
    · cases hcD
  ne := fun h tp dd its n sl X htp => by
    obtain ⟨cdD, hcD, _⟩ := any_some c.hd
    refine Bool.eq_false_iff.mpr fun q => ?_
    have e : D = tp := Value.ref.inj (beq_iff_eq.mp q)
    subst e
    unfold clsIn at hcD
    split at hcD
    · rename_i c' d' cd' sl' ho
      cases (X _ _ ho).symm.trans htp
    · cases hcD
  ca := fun X ⟨_, _, I⟩ k => cls_asked c X I k
end
end EV
namespace L2
open PySem PySem.Spec PyProof.Rows
section
variable {X : Cx} {pins : List (Addr × Obj)} {σ : St} {H : Hp} {s : Shared}
/-- a tracked exception as the library sees it: its class, its own dict -/
theorem exo_inst {a C d : Addr} {fs : List (Str × V)} (I : Inv X pins σ H s) (ea : H a = some (exo a C (some d))) (ed : H d = some (exd d fs)) :
    ∃ (ox od : Obj) (mA : Str → Option Value), PySem.W.InstAt s.heap a ox C (some od) ∧ (∀ f, RelO (fs.lookup f) (mA f)) ∧ ∀ f, PySem.W.lookIn f od = some (mA f) := by
  obtain ⟨t1, ho⟩ := exo_at I.hok ea
  obtain ⟨mA, hns, rel⟩ := exd_at I.hok ed
  obtain ⟨od, hd, hl⟩ := lookIn_ns hns
  exact ⟨_, od, mA, ⟨ho, rfl, rfl, hd⟩, rel, hl⟩
end
/-- isinstance(e, c), e a tracked exception of the class at D -/
def rIsV (K : PySem.W.Frag) : List V → Hp → VK → Prop := fun xs H Q => ∃ (a D d : Addr) (fs : List (Str × V)) (c : V) (cv : Value) (b : Bool),
  xs = [.ref a, c] ∧ H a = some (exo a D (some d)) ∧ H d = some (exd d fs) ∧ ExcC K D ∧ ClsV c cv ∧ PySem.W.kitOne K (.ref D) cv = some b ∧ Q (.bl b) H
theorem call_isV {X : Cx} : CallR X (.builtin "isinstance") (rIsV X.K) := by
  intro pins s σ H xs us Q I r h
  obtain ⟨a, D, d, fs, c, cv, b, rfl, ea, ed, T, k, e, q⟩ := h
  obtain ⟨u1, u2, rfl, r1, r2⟩ := vals2 r
  cases (show u1 = Value.ref a from r1)
  have e2 := k.eq r2
  subst e2
  obtain ⟨ox, od, mA, J, _, _⟩ := exo_inst I ea ed
  exact PySem.W.kia_one (EV.kit_exc T) I.kIn ⟨_, _, J⟩ e (fun z => nomatch z) fun tk => ⟨.bl b, H, I.tok tk, rfl, q⟩
/-- e.f, e a tracked exception -/
def tEFld (K : PySem.W.Frag) (f : Str) (te : TE) : TE := fun σ H Q => te σ H fun x H1 => ∃ (a C d : Addr) (fs : List (Str × V)) (v : V),
  x = .ref a ∧ H1 a = some (exo a C (some d)) ∧ H1 d = some (exd d fs) ∧ XfC K C ∧ PySem.W.findIn K (.ref C) f = some none ∧ fs.lookup f = some v ∧ Q v H1
theorem pe_efld {X : Cx} {e : Expr} {te : TE} {pos : Pos} {f : Str} (he : PE X e te) (hb : attributeBase e f X.env (eval e X.env) = eval e X.env := by rfl) : PE X (.Attribute e f pos) (tEFld X.K f te) := by
  refine ⟨fun pins s σ H Q I h => ?_⟩
  refine attr_of hb (thn (he.run pins s σ H _ I h) fun u s1 hh => ?_)
  obtain ⟨x, H1, I1, rx, a, C, d, fs, v, ex, ea, ed, T, hno, l, q⟩ := hh
  subst ex
  obtain rfl : u = Value.ref a := rx
  obtain ⟨ox, od, mA, J, rel, hl⟩ := exo_inst I1 ea ed
  obtain ⟨u, hu, ru⟩ := RelO.some_of (v := v) (o := mA f) (by rw [← l]; exact rel f)
  exact HandSPX.exc_get I1.kIn J T.ga T.gg T.exC (PySem.W.findObj_own T.hdC hno rfl (by rw [hl, hu])) (handed_of ru) ⟨v, H1, I1.tok _, ru, q⟩
/-- C(e, ..) as a value; C's __init__ (its own, or one above it) keeps sp -/
def tMkE (C : Addr) (sp : Sp) (dvs : List V) (ta : TA) : TE := fun σ H Q => ta σ H fun vs H1 => vs.length ≤ 1000 ∧ ∀ a, H1 a = none → sp (.ref a :: (vs ++ dvs)) (upd H1 a (exo a C none)) (fun v H2 => v = .non ∧ Q (.ref a) H2) (fun _ _ _ => False)
section
variable {X : Cx} {CX : CXT} {x : Str} {C fI : Addr} {k : Nat} {fd : FuncData} {ps : List Str} {sp : Sp} {ds : List Value} {dvs : List V} {e : Expr} {es : List Expr} {ta : TA} {p pos : Pos}
theorem run_mke {pins : List (Addr × Obj)} {σ : St} {H1 : Hp} {s : Shared} {Q : VK} {us : List Value} {vs : List V} (T : OexC X.K C) (iC : PySem.W.findIn X.K (.ref C) "__init__" = some (some (.ref fI))) (tI : PySem.W.typeIn X.K (.ref fI) = some (.type "function"))
    (F1 : FnOk X.prog X.w X.K X.mg X.base CX k fI fd ps sp) (hr : Room (k + 1) X.A) (hb : Binds X.K fd ps ds) (hd : Vals dvs ds) (hx : Passes CX X (fun _ _ _ => False)) (I1 : Inv X pins σ H1 s) (r1 : Vals vs us) (hz : vs.length ≤ 1000)
    (q1 : ∀ a, H1 a = none → sp (.ref a :: (vs ++ dvs)) (upd H1 a (exo a C none)) (fun v H2 => v = .non ∧ Q (.ref a) H2) (fun _ _ _ => False)) :
    wpAny (model X.prog X.w) X.A (call (.ref C) us) (EP X pins σ Q) X.xe s := by
  obtain ⟨nm, q, N, bs, bm, sn, sub, ab, col, dd, k0, k1, k2, k3, k5, hC, hbm⟩ := T.cls
  obtain ⟨hp, g, dr, tk, os⟩ := s
  have le : hp.objs.size ≤ hp.objs.size + 1 := Nat.le_succ _
  have hq := q1 (hp.objs.size + 1) (I1.hok.fresh le)
  have kept : ∀ b o, hp.get? b = some o → ((hp.push (PySem.W.kdv_tup us)).push (PySem.HandSPX.excO C hp.objs.size)).get? b = some o := fun b o z => Heap.get?_push_of_some _ (Heap.get?_push_of_some _ z)
  have new : ((hp.push (PySem.W.kdv_tup us)).push (PySem.HandSPX.excO C hp.objs.size)).get? (hp.objs.size + 1) = some (PySem.HandSPX.excO C hp.objs.size) := by heap_get
  have I2 : Inv X pins σ (upd H1 (hp.objs.size + 1) (exo (hp.objs.size + 1) C none)) ⟨(hp.push (PySem.W.kdv_tup us)).push (PySem.HandSPX.excO C hp.objs.size), g, dr, tk, os⟩ :=
    I1.laid (t' := tk) (a := hp.objs.size + 1) (o := exo (hp.objs.size + 1) C none) (h' := (hp.push (PySem.W.kdv_tup us)).push (PySem.HandSPX.excO C hp.objs.size)) kept le (exo_ok new)
  have r2 : Vals (V.ref (hp.objs.size + 1) :: (vs ++ dvs)) (Value.ref (hp.objs.size + 1) :: (us ++ ds)) := .cons rfl (r1.append hd)
  have hl : (Value.ref (hp.objs.size + 1) :: us ++ ds).length = ps.length := r2.length.symm.trans (F1.len _ _ _ _ hq)
  have hus : us.length ≤ sizeLine := by
    rw [← Paired.length r1, sizeLine_eq]
    omega
  refine wpAny_call (PySem.HandSPX.call_own F.excBase_ValueError (fun Y => PySem.HandSPX.refsVE_contains Y bm hbm) (I1.kIn _ _ hC) (PySem.W.looks_findIn I1.kIn iC) (fun self => PySem.W.bind_fn I1.kIn self tI) hus
    (codeAny_mono (F1.run _ X.stack _ _ ⟨Value.ref (hp.objs.size + 1) :: us, []⟩ (Value.ref (hp.objs.size + 1) :: (us ++ ds)) _ _ (fun _ _ _ => False) (hr.make C us []) (I2.env0.make C us []) (hb _ (Value.ref (hp.objs.size + 1) :: us) I2.kIn hl) r2 hq) fun r s' hq' => ?_))
  cases r with
  | error er => exact hx pins σ _ _ er s' I2 hq'
  | ok fl =>
    cases fl with
    | ret u =>
      obtain ⟨v, H', I3, rv, ev, q3⟩ := I2.after hq'
      subst ev
      exact ⟨rv, ⟨V.ref (hp.objs.size + 1), H', I3, rfl, q3⟩⟩
    | next => exact False.elim hq'
    | brk => exact False.elim hq'
    | cont => exact False.elim hq'
theorem pe_mke (T : OexC X.K C) (iC : PySem.W.findIn X.K (.ref C) "__init__" = some (some (.ref fI))) (tI : PySem.W.typeIn X.K (.ref fI) = some (.type "function")) (F1 : FnOk X.prog X.w X.K X.mg X.base CX k fI fd ps sp) (hr : Room (k + 1) X.A)
    (hb : Binds X.K fd ps ds) (hd : Vals dvs ds) (hx : Passes CX X (fun _ _ _ => False)) (hg : Gl X x) (hm : X.mg x = some (.ref C)) (ha : PA X (e :: es) ta) (hdb : (x == ("__debug__" : Str)) = false := by decide)
    (he : starEach (e :: es) X.env = (false, eval e X.env) :: starEach es X.env := by rfl) (hpl : (backTo pos (starEach es X.env)).any (·.1) = false := by rfl) : PE X (.Call (.Name x p) (e :: es) [] pos) (tMkE C sp dvs ta) := by
  refine ⟨fun pins s σ H Q I h => ?_⟩
  refine wpAny_Call_Name_kw (ld_glob I hg hm ?_ hdb)
  refine PySem.W.callWith_K (h₀ := X.base) I.ok.mod.kin T.kC (thn (ha.run pos pins s σ H _ I h) fun us s1 ⟨vs, H1, I1, r1, hz, q1⟩ => ⟨I1.kIn, ?_⟩) he hpl
  exact run_mke T iC tI F1 hr hb hd hx I1 r1 hz q1
theorem pe_mke0 (T : OexC X.K C) (iC : PySem.W.findIn X.K (.ref C) "__init__" = some (some (.ref fI))) (tI : PySem.W.typeIn X.K (.ref fI) = some (.type "function")) (F1 : FnOk X.prog X.w X.K X.mg X.base CX k fI fd ps sp) (hr : Room (k + 1) X.A)
    (hb : Binds X.K fd ps ds) (hd : Vals dvs ds) (hx : Passes CX X (fun _ _ _ => False)) (hg : Gl X x) (hm : X.mg x = some (.ref C)) (hdb : (x == ("__debug__" : Str)) = false := by decide) : PE X (.Call (.Name x p) [] [] pos) (tMkE C sp dvs tNil) := by
  refine ⟨fun pins s σ H Q I h => ?_⟩
  refine wpAny_Call_Name_kw (ld_glob I hg hm ?_ hdb)
  obtain ⟨hz, q1⟩ := h
  exact PySem.W.callWith_K0 I.kIn T.kC (run_mke (us := []) T iC tI F1 hr hb hd hx I .nil hz q1)
end
end L2
/-! C(f = e), C an own exception class whose __init__ takes f. -/
namespace EV
open PySem PySem.W PySem.Spec PySem.Calls PyProof.Rows PySem.HandSPX
section
variable {M : Model} {prog : Program} {w : World} {A : Around} {E : Value → Shared → Prop} {R : Result → Shared → Prop} {h : Heap} {g : Array GenState} {d : Drawn} {t : Nat} {os : OsState}
variable {nm q : Str} {C N : Addr} {bs bm bmB : List Value} {hdct : Bool} {sn : List Str} {sub : List Value} {ab : Bool} {col : Option Bool} {dd : Option Addr} {k0 k1 k2 k3 k5 : Option Value} {B newId initId : String} {fn : Str} {fv : Value}
theorem kwTypeCheck {Q : Unit → Shared → Prop} (hC : h.get? C = some (excClassObj nm q C N bs bm hdct sn sub ab col dd k0 k1 k2 k3 k5 newId)) (hq : Q () ⟨h, g, d, t, os⟩) :
    wpAny M A (checkBuiltinCall "type.__call__" ⟨[.ref C], [(fn, fv)]⟩) Q E ⟨h, g, d, t, os⟩ := by
  have s1 := tc_sub
  have s2 : (⟨h, g, d, t, os⟩ : Shared).TypeIs (.ref C) "type" := ⟨_, hC, rfl⟩
  simp only [checkBuiltinCall, tc_kind, tc_split]
  repeat (any_goals (first | assumption | with_reducible refine wpAny_loadPart_at hC ?_ | with_reducible refine wpAny_onRaise ?_ | with_reducible refine wpAny_map ?_ | wp_step))
  all_goals trace_state
theorem kwNewCheck (F : ExcBaseFacts B newId initId bmB) (hT : ∀ X : String, bm.contains (.type X) = bmB.contains (.type X)) {Q : Unit → Shared → Prop}
    (hC : h.get? C = some (excClassObj nm q C N bs bm hdct sn sub ab col dd k0 k1 k2 k3 k5 newId)) (hq : Q () ⟨h, g, d, t, os⟩) : wpAny M A (checkBuiltinCall newId ⟨[.ref C], [(fn, fv)]⟩) Q E ⟨h, g, d, t, os⟩ := by
  have inB : (Value.ref C :: bm).contains (.type B) = true := by rw [List.contains_cons, hT, F.hasB, Bool.or_true]
  have star := F.noStar
  simp only [checkBuiltinCall, F.newKind, F.newSplit, F.newRow]
  repeat (first | refine wpAny_loadPart_at hC ?_ | (refine wpAny_isSubtype_exc hC ?_; rw [inB]) | refine wpAny_staticBase_exc hC ?_ | refine wpAny_madeBy_exc hC ?_ | simp only [bne_self_eq_false, Bool.false_eq_true, if_false] | wp_step)
  first
    | exact hq
    | trace_state
theorem kwNew (F : ExcBaseFacts B newId initId bmB) (hT : ∀ X : String, bm.contains (.type X) = bmB.contains (.type X)) (hC : h.get? C = some (excClassObj nm q C N bs bm hdct sn sub ab col dd k0 k1 k2 k3 k5 newId))
    (hq : R (.ok (.ret (.ref (h.objs.size + 1)))) ⟨(h.push (W.kdv_tup [])).push (excO C h.objs.size), g, d, t, os⟩) : codeAny (model prog w) A (.builtin newId ⟨[.ref C], [(fn, fv)]⟩) R ⟨h, g, d, t, os⟩ := by
  have ends := F.ends
  have inB : (Value.ref C :: bm).contains (.type B) = true := by rw [List.contains_cons, hT, F.hasB, Bool.or_true]
  have inA : (Value.ref C :: bm).contains (.type "AttributeError") = false := by rw [List.contains_cons, hT, F.noAttr]; rfl
  have inN : (Value.ref C :: bm).contains (.type "NameError") = false := by rw [List.contains_cons, hT, F.noName]; rfl
  refine codeAny_builtinAt F.entry ?_
  unfold Builtin.«BaseException.__new__»
  refine PySem.wpAt_bind ?_
  show PySem.wpAt _ _ _ (stack >>= _) _ _ _
  refine PySem.wpAt_bind (PySem.wpAt_stack fun p below => PySem.wpAt_of_wpAny ?_)
  wp_walk
  refine PySem.wpAt_of_wpAny ?_
  rw [F.owner]
  repeat (first | with_reducible refine wpAny_madeHere_exc F.canon hC ?_ | with_reducible refine wpAny_loadPart_at hC ?_ | (with_reducible refine wpAny_isSubtype_exc hC ?_; first | rw [inB] | rw [inA] | rw [inN]) | wp_step)
  show R _ _
  rw [Heap.size_push]
  exact hq
theorem kwTypeCall (F : ExcBaseFacts B newId initId bmB) (hT : ∀ X : String, bm.contains (.type X) = bmB.contains (.type X)) {fI : Addr} {Q : Fin → Shared → Prop}
    (hC : h.get? C = some (excClassObj nm q C N bs bm hdct sn sub ab col dd k0 k1 k2 k3 k5 newId))
    (hi : W.Looks (model prog w) h (typeLookup (.ref C) "__init__") (some (.ref fI))) (hb : ∀ self, W.Looks (model prog w) h (bindSpecial (.ref fI) self) (.ref fI, [self]))
    (hq : codeAny (model prog w) A (.call (.ref fI) ⟨[.ref (h.objs.size + 1)], [(fn, fv)]⟩)
      (fun r s' => match r with | .ok (.ret v) => v = .none ∧ Q (.done (.ret (.ref (h.objs.size + 1)))) s' | .ok _ => False | .error e => E e s') ⟨(h.push (W.kdv_tup [])).push (excO C h.objs.size), g, d, t, os⟩) :
    wpAny (model prog w) A (Builtin.«type.__call__» ⟨[.ref C], [(fn, fv)]⟩) Q E ⟨h, g, d, t, os⟩ := by
  repeat (first | with_reducible refine wpAny_loadPart_at hC ?_ | with_reducible refine wpAny_madeBy_exc hC ?_ | wp_step)
  refine codeAny_call_builtin_code (Code.quiet_builtin _ F.quiet) (kwNewCheck F hT hC ?_)
  refine kwNew F hT hC ?_
  show wpAny _ _ _ _ _ _
  have kk : ∀ b o, h.get? b = some o → ((h.push (W.kdv_tup [])).push (excO C h.objs.size)).get? b = some o := fun b o e => Heap.get?_push_of_some _ (Heap.get?_push_of_some _ e)
  have hC1 := kk _ _ hC
  have new : ((h.push (W.kdv_tup [])).push (excO C h.objs.size)).get? (h.objs.size + 1) = some (excO C h.objs.size) := by heap_get
  have own : (Value.ref C :: bm).contains (.ref C) = true := by simp
  have l1 := hi.keeps kk
  have l2 := (hb (.ref (h.objs.size + 1))).keeps kk
  unfold isInstance
  repeat (first | with_reducible refine wpAny_loadPart_at new ?_ | (with_reducible refine wpAny_isSubtype_exc hC1 ?_; rw [own]) | wp_step)
  show wpAny _ _ (typeLookup (.ref C) _) _ _ _
  refine l1.at (wpAny_holding (wpAny_bind (l2.at (wpAny_bind (wpAny_call (codeAny_mono hq fun r s' z => ?_))))))
  rcases r with e | (v | _ | _ | _) <;> first | exact z | exact z.elim | skip
  obtain ⟨rfl, z⟩ := z
  first
    | exact wpAny_pure (wpAny_pure z)
    | (wp_walk; exact z)
theorem kwCall (F : ExcBaseFacts B newId initId bmB) (hT : ∀ X : String, bm.contains (.type X) = bmB.contains (.type X)) {fI : Addr}
    (hC : h.get? C = some (excClassObj nm q C N bs bm hdct sn sub ab col dd k0 k1 k2 k3 k5 newId))
    (hi : W.Looks (model prog w) h (typeLookup (.ref C) "__init__") (some (.ref fI))) (hb : ∀ self, W.Looks (model prog w) h (bindSpecial (.ref fI) self) (.ref fI, [self]))
    (hq : codeAny (model prog w) (A.under (.builtin "type.__call__" ⟨[.ref C], [(fn, fv)]⟩)) (.call (.ref fI) ⟨[.ref (h.objs.size + 1)], [(fn, fv)]⟩) (W.InitBack (h.objs.size + 1) R)
      ⟨(h.push (W.kdv_tup [])).push (excO C h.objs.size), g, d, t, os⟩) : codeAny (model prog w) A (.call (.ref C) ⟨[], [(fn, fv)]⟩) R ⟨h, g, d, t, os⟩ := by
  have s0 := tc_lookup
  have s1 := tc_bind (.ref C)
  have s2 : (⟨h, g, d, t, os⟩ : Shared).TypeIs (.ref C) "type" := ⟨_, hC, rfl⟩
  refine codeAny_of_tree ?_
  show wpAny _ _ (callAny (.ref C) _) _ _ _
  repeat (any_goals (first | assumption | with_reducible refine wpAny_loadPart_at hC ?_ | wp_step))
  refine ⟨rfl, ?_⟩
  refine codeAny_call_builtin_at (Code.quiet_builtin _ (by decide +kernel)) entry_typeCall (kwTypeCheck hC (kwTypeCall F hT hC hi hb ?_))
  refine codeAny_mono hq fun r s' z => ?_
  rcases r with e | (v | _ | _ | _) <;> exact z
end
end EV
namespace Oh
open PySem PySem.Spec PyProof.Rows L2
def top (i : Nat) : Stmt := PySem.Challenge.pw_onlyheard_k01_error_classes.main.body.getD i (.Pass ⟨0, 0, 0, 0⟩)
abbrev sMixed : Stmt := top 72
abbrev sDraw : Stmt := top 73
abbrev sSource : Stmt := top 71
abbrev sAlike : Stmt := top 74
abbrev sOdd : Stmt := top 75
abbrev sFlags1 : Stmt := top 76
abbrev sFlags : Stmt := top 77
abbrev sBare : Stmt := top 78
abbrev sPlaced : Stmt := top 79
abbrev sNamed : Stmt := top 80
abbrev sRight : Stmt := top 81
abbrev sSameV : Stmt := top 82
abbrev sCaught : Stmt := top 83
abbrev sLaw : Stmt := top 84
end Oh
namespace Oh
open PySem PySem.Spec PyProof.Rows L2
theorem bb_bool : bootBuiltins "bool" = some (.type "bool") := by decide +kernel
theorem bb_int : bootBuiltins "int" = some (.type "int") := by decide +kernel
theorem bb_str : bootBuiltins "str" = some (.type "str") := by decide +kernel
theorem bb_tuple : bootBuiltins "tuple" = some (.type "tuple") := by decide +kernel
theorem bb_list : bootBuiltins "list" = some (.type "list") := by decide +kernel
theorem bb_dict : bootBuiltins "dict" = some (.type "dict") := by decide +kernel
theorem bb_ValueError : bootBuiltins "ValueError" = some (.type "ValueError") := by decide +kernel
/-- isinstance(e, T), T a built-in class: its reading -/
def tIsi (K : PySem.W.Frag) (T : String) (te : TE) : TE := fun σ H Q => te σ H fun x H1 => ∃ (t : Value) (b : Bool), TyX K H1 x t ∧ PySem.W.kitOne K t (.type T) = some b ∧ Q (.bl b) H1
theorem PE.imp {X : Cx} {e : Expr} {t t' : TE} (h : PE X e t) (w : ∀ σ H Q, t' σ H Q → t σ H Q) : PE X e t' := ⟨fun pins s σ H Q I q => h.run pins s σ H Q I (w σ H Q q)⟩
/-- a reading may be weakened from within -/
def Mono (te : TE) : Prop := ∀ σ H (Q Q' : VK), (∀ v H', Q v H' → Q' v H') → te σ H Q → te σ H Q'
theorem mono_var {i : Nat} : Mono (tVar i) := fun σ H Q Q' w ⟨v, e, q⟩ => ⟨v, e, w _ _ q⟩
theorem pe_isi {X : Cx} {e : Expr} {te : TE} {x : Str} {T : String} {p q pos : Pos} (he : PE X e te) (mo : Mono te) (hi : X.mg "isinstance" = none) (hT : X.mg x = none) (hv : bootBuiltins x = some (.type T)) (hgi : Gl X "isinstance" := by rfl) (hg : Gl X x := by rfl)
    (hn : x ≠ "__name__" := by decide) (hd : (x == ("__debug__" : Str)) = false := by decide) (h1 : starEach [e, .Name x q] X.env = (false, eval e X.env) :: starEach [.Name x q] X.env := by rfl) (h2 : (backTo pos (starEach [.Name x q] X.env)).any (·.1) = false := by rfl)
    (h3 : starEach [.Name x q] X.env = (false, eval (.Name x q) X.env) :: starEach [] X.env := by rfl) : PE X (.Call (.Name "isinstance" p) [e, .Name x q] [] pos) (tIsi X.K T te) := by
  refine PE.imp (pe_callB (r := rIsi X.K) (hc := call_isi) hgi hi (by decide +kernel) (pa_cons he (pa_cons (pe_bltn (v := .ty T) hg hT hv rfl hn hd) pa_nil h3) h1) (he := h1) (hpl := h2)) fun σ H Q w => mo σ H _ _ (fun v H' ⟨t, b, ty, k, qq⟩ => ⟨v, .ty T, t, .type T, b, rfl, .ty _, ty, k, qq⟩) w
end Oh
namespace Oh
open PySem PySem.Spec PyProof.Rows L2
theorem PA.imp {X : Cx} {es : List Expr} {t t' : TA} (h : PA X es t) (w : ∀ σ H Q, t' σ H Q → t σ H Q) : PA X es t' := ⟨fun pos pins s σ H Q I q => h.run pos pins s σ H Q I (w σ H Q q)⟩
/-- at a: an error of the class at C with the value v -/
def ErrAt (H : Hp) (a C : Addr) (v : V) : Prop := ∃ d, H a = some (exo a C (some d)) ∧ H d = some (exd d [("what", v)])
theorem ErrAt.keep {H H' : Hp} {a C : Addr} {v : V} (e : ErrAt H a C v) (s : Same H H') : ErrAt H' a C v := by
  obtain ⟨d, h1, h2⟩ := e
  exact ⟨d, s _ _ h1, s _ _ h2⟩
/-- what the written part says of an error class; f1: the __init__ that it has from the base class -/
structure ErrC (K : PySem.W.Frag) (f1 C : Addr) : Prop where
  ox : OexC K C
  ec : ExcC K C
  xf : XfC K C
  no : PySem.W.findIn K (.ref C) "what" = some none
  ini : PySem.W.findIn K (.ref C) "__init__" = some (some (.ref f1))
/-- self.what = what -/
def spEInit (K : PySem.W.Frag) (f1 : Addr) : Sp := fun vs H Q _ => ∃ (a C : Addr) (v : V), vs = [.ref a, v] ∧ ErrC K f1 C ∧ H a = some (exo a C none) ∧ ∀ H', (∀ b o, H b = some o → b ≠ a → H' b = some o) → ErrAt H' a C v → Q .non H'
/-- a new error of the class at C, whose value g tells -/
def tErr (g : L2.St → V → Prop) (C : Addr) : TE := fun σ H Q => ∃ v, g σ v ∧ ∀ a H', H a = none → Same H H' → ErrAt H' a C v → Q (.ref a) H'
/-- several of them -/
def Errs (H : Hp) (v : V) (as Cs : List Addr) : Prop := Paired (fun a C => ErrAt H a C v) as Cs
theorem Errs.keep {H H' : Hp} {v : V} (s : Same H H') : ∀ {as Cs : List Addr}, Errs H v as Cs → Errs H' v as Cs
  | _, _, .nil => .nil
  | _, _, .cons h t => .cons (h.keep s) (Errs.keep s t)
theorem Errs.append {H : Hp} {v : V} : ∀ {as Cs bs Ds : List Addr}, Errs H v as Cs → Errs H v bs Ds → Errs H v (as ++ bs) (Cs ++ Ds)
  | _, _, _, _, .nil, h => h
  | _, _, _, _, .cons a t, h => .cons a (Errs.append t h)
def tErrs (g : L2.St → V → Prop) (Cs : List Addr) : TA := fun σ H Q => ∃ v, g σ v ∧ ∀ as H', Same H H' → Errs H' v as Cs → Q (as.map V.ref) H'
def Det (g : L2.St → V → Prop) : Prop := ∀ σ v v', g σ v → g σ v' → v = v'
section
variable {X : Cx} {e : Expr} {es : List Expr} {g : L2.St → V → Prop} {C f1 : Addr} {Cs : List Addr}
theorem pa_errs0 (g : L2.St → V → Prop) : PA X [] (tErrs g []) := PA.imp pa_nil fun σ H Q ⟨v, _, q⟩ => q [] H (Same.refl H) .nil
theorem pa_errs (dg : Det g) (he : PE X e (tErr g C)) (hr : PA X es (tErrs g Cs)) (hs : starEach (e :: es) X.env = (false, eval e X.env) :: starEach es X.env := by rfl) : PA X (e :: es) (tErrs g (C :: Cs)) := by
  refine PA.imp (pa_cons he hr hs) fun σ H Q h => ?_
  obtain ⟨v, gv, q⟩ := h
  refine ⟨v, gv, fun a H1 _ s1 e1 => ⟨v, gv, fun as H2 s2 e2 => ?_⟩⟩
  exact q (a :: as) H2 (s1.trans s2) (.cons (e1.keep s2) e2)
variable {CX : CXT} {x : Str} {k : Nat} {fd : FuncData} {ps : List Str} {ds : List Value} {dvs : List V} {ta : TA} {p pos : Pos}
theorem err_of {H H' : Hp} {a C : Addr} (na : H a = none) (hk : ∀ b o, upd H a (exo a C none) b = some o → b ≠ a → H' b = some o) : Same H H' := fun b o e => by
  have nb := ne_of_none e na
  exact hk b o (by rw [upd_ne nb]; exact e) nb
/-- C(e) -/
theorem pe_err1 {te : TE} (T : ErrC X.K f1 C) (tI : PySem.W.typeIn X.K (.ref f1) = some (.type "function")) (F1 : FnOk X.prog X.w X.K X.mg X.base CX0 k f1 fd ps (spEInit X.K f1)) (hr : Room (k + 1) X.A) (hb : Binds X.K fd ps []) (hm : X.mg x = some (.ref C)) (he : PE X e te)
    (hte : ∀ σ H Q, (∃ v, g σ v ∧ Q v H) → te σ H Q) (hg : Gl X x := by rfl) (hdb : (x == ("__debug__" : Str)) = false := by decide)
    (h1 : starEach [e] X.env = (false, eval e X.env) :: starEach [] X.env := by rfl) (hpl : (backTo pos (starEach [] X.env)).any (·.1) = false := by rfl) : PE X (.Call (.Name x p) [e] [] pos) (tErr g C) := by
  refine PE.imp (pe_mke T.ox T.ini tI F1 hr hb .nil pass0 hg hm (pa_cons he pa_nil h1) hdb h1 hpl) fun σ H Q h => ?_
  obtain ⟨v, gv, q⟩ := h
  refine hte σ H _ ⟨v, gv, (by show 1 ≤ 1000; decide), fun a na => ⟨a, C, v, rfl, T, upd_same, fun H' hk e1 => ⟨rfl, ?_⟩⟩⟩
  exact q a H' na (err_of na hk) e1
/-- C() -/
theorem pe_err0 (T : ErrC X.K f1 C) (tI : PySem.W.typeIn X.K (.ref f1) = some (.type "function")) (F1 : FnOk X.prog X.w X.K X.mg X.base CX0 k f1 fd ps (spEInit X.K f1)) (hr : Room (k + 1) X.A) (hb : Binds X.K fd ps ds) (hd : Vals [V.non] ds) (hm : X.mg x = some (.ref C))
    (hg : Gl X x := by rfl) (hdb : (x == ("__debug__" : Str)) = false := by decide) : PE X (.Call (.Name x p) [] [] pos) (tErr (fun _ v => v = .non) C) := by
  refine PE.imp (pe_mke0 T.ox T.ini tI F1 hr hb hd pass0 hg hm hdb) fun σ H Q h => ?_
  obtain ⟨v, rfl, q⟩ := h
  refine ⟨by decide, fun a na => ⟨a, C, .non, rfl, T, upd_same, fun H' hk e1 => ⟨rfl, ?_⟩⟩⟩
  exact q a H' na (err_of na hk) e1
end
/-! ### isinstance of an error, of several classes -/
def IsE (H : Hp) (a D : Addr) : Prop := ∃ d fs, H a = some (exo a D (some d)) ∧ H d = some (exd d fs)
theorem ErrAt.is {H : Hp} {a C : Addr} {v : V} (e : ErrAt H a C v) : IsE H a C := by
  obtain ⟨d, h1, h2⟩ := e
  exact ⟨d, _, h1, h2⟩
theorem IsE.keep {H H' : Hp} {a D : Addr} (e : IsE H a D) (s : Same H H') : IsE H' a D := by
  obtain ⟨d, fs, h1, h2⟩ := e
  exact ⟨d, fs, s _ _ h1, s _ _ h2⟩
def tIsC (K : PySem.W.Frag) (cv : Value) (te : TE) : TE := fun σ H Q => te σ H fun x H1 => ∃ (a D : Addr) (b : Bool), x = .ref a ∧ IsE H1 a D ∧ ExcC K D ∧ PySem.W.kitOne K (.ref D) cv = some b ∧ Q (.bl b) H1
section
variable {X : Cx} {e : Expr} {es : List Expr} {x : Str} {C : Addr} {te : TE} {p q pos : Pos}
theorem pe_isc (he : PE X e te) (mo : Mono te) (hi : X.mg "isinstance" = none) (hm : X.mg x = some (.ref C)) (hgi : Gl X "isinstance" := by rfl) (hg : Gl X x := by rfl) (hd : (x == ("__debug__" : Str)) = false := by decide)
    (h1 : starEach [e, .Name x q] X.env = (false, eval e X.env) :: starEach [.Name x q] X.env := by rfl) (h2 : (backTo pos (starEach [.Name x q] X.env)).any (·.1) = false := by rfl) (h3 : starEach [.Name x q] X.env = (false, eval (.Name x q) X.env) :: starEach [] X.env := by rfl) :
    PE X (.Call (.Name "isinstance" p) [e, .Name x q] [] pos) (tIsC X.K (.ref C) te) := by
  refine PE.imp (pe_callB (r := rIsV X.K) (hc := call_isV) hgi hi (by decide +kernel) (pa_cons he (pa_cons (pe_glob (v := .ref C) hg hm rfl hd) pa_nil h3) h1) (he := h1) (hpl := h2)) fun σ H Q w => mo σ H _ _ (fun v H' ⟨a, D, b, ev, ⟨d, fs, ea, ed⟩, ec, k, qq⟩ => ?_) w
  exact ⟨a, D, d, fs, .ref C, .ref C, b, by rw [ev], ea, ed, ec, .own C, k, qq⟩
/-- a built-in class in the second place -/
theorem pe_isb {T : String} (he : PE X e te) (mo : Mono te) (hi : X.mg "isinstance" = none) (hT : X.mg x = none) (hv : bootBuiltins x = some (.type T)) (hgi : Gl X "isinstance" := by rfl) (hg : Gl X x := by rfl) (hn : x ≠ "__name__" := by decide) (hd : (x == ("__debug__" : Str)) = false := by decide)
    (h1 : starEach [e, .Name x q] X.env = (false, eval e X.env) :: starEach [.Name x q] X.env := by rfl) (h2 : (backTo pos (starEach [.Name x q] X.env)).any (·.1) = false := by rfl) (h3 : starEach [.Name x q] X.env = (false, eval (.Name x q) X.env) :: starEach [] X.env := by rfl) :
    PE X (.Call (.Name "isinstance" p) [e, .Name x q] [] pos) (tIsC X.K (.type T) te) := by
  refine PE.imp (pe_callB (r := rIsV X.K) (hc := call_isV) hgi hi (by decide +kernel) (pa_cons he (pa_cons (pe_bltn (v := .ty T) hg hT hv rfl hn hd) pa_nil h3) h1) (he := h1) (hpl := h2)) fun σ H Q w => mo σ H _ _ (fun v H' ⟨a, D, b, ev, ⟨d, fs, ea, ed⟩, ec, k, qq⟩ => ?_) w
  exact ⟨a, D, d, fs, .ty T, .type T, b, by rw [ev], ea, ed, ec, .ty T, k, qq⟩
/-- the answers for several classes -/
def Kits (K : PySem.W.Frag) (D : Addr) (Cs : List Addr) (bs : List Bool) : Prop := Paired (fun C b => PySem.W.kitOne K (.ref D) (.ref C) = some b) Cs bs
def tFl (K : PySem.W.Frag) (i : Nat) (Cs : List Addr) : TA := fun σ H Q => ∃ a D bs, σ[i]? = some (some (.ref a)) ∧ IsE H a D ∧ ExcC K D ∧ Kits K D Cs bs ∧ Q (bs.map V.bl) H
theorem pa_fl0 (K : PySem.W.Frag) (i : Nat) : PA X [] (tFl K i []) := PA.imp pa_nil fun σ H Q ⟨a, D, bs, _, _, _, kk, q⟩ => by
  cases kk
  exact q
theorem pa_fl {i : Nat} {Cs : List Addr} (he : PE X e (tIsC X.K (.ref C) (tVar i))) (hr : PA X es (tFl X.K i Cs)) (hs : starEach (e :: es) X.env = (false, eval e X.env) :: starEach es X.env := by rfl) : PA X (e :: es) (tFl X.K i (C :: Cs)) := by
  refine PA.imp (pa_cons he hr hs) fun σ H Q h => ?_
  obtain ⟨a, D, bs, ea, hE, ec, kk, qq⟩ := h
  cases kk with
  | cons k1 kr => exact ⟨_, ea, a, D, _, rfl, hE, ec, k1, a, D, _, ea, hE, ec, kr, qq⟩
end
end Oh
namespace Oh
open PySem PySem.Spec PyProof.Rows L2
/-- a mixed number: some int -/
def spMixed : Sp := fun vs H Q _ => ∃ n c : Int, vs = [.int n, .int c] ∧ ∀ m : Int, Q (.int m) H
/-- where the numbers of a script are drawn from: the list at a, its cells at c -/
structure Src (H : Hp) (a c : Addr) : Prop where
  ne : a ≠ c
  at_ : ∃ (ns : List Int) (i : Nat) (s k : Int), H a = some (.lst [.ref c, .int (i : Int), .int s, .int k]) ∧ H c = some (.lst (ns.map V.int)) ∧ ns.length ≤ 63
/-- all but the two lists stays -/
def Keep (a c : Addr) (H H' : Hp) : Prop := ∀ b o, H b = some o → b ≠ a → b ≠ c → H' b = some o
theorem Keep.refl (a c : Addr) (H : Hp) : Keep a c H H := fun _ _ h _ _ => h
theorem Keep.trans {a c : Addr} {H H1 H2 : Hp} (k : Keep a c H H1) (l : Keep a c H1 H2) : Keep a c H H2 := fun b o h n m => l b o (k b o h n m) n m
theorem Keep.of_same {a c : Addr} {H H' : Hp} (s : Same H H') : Keep a c H H' := fun b o h _ _ => s b o h
def spDraw : Sp := fun vs H Q _ => ∃ (a c : Addr) (m : Int), vs = [.ref a, .int m] ∧ Src H a c ∧ 0 < m ∧ m.natAbs.log2 < 9000 ∧
  ∀ (d : Int) (H' : Hp), 0 ≤ d → d < m → Src H' a c → Keep a c H H' → Q (.int d) H'
structure TxtA (mg : Str → Option Value) : Prop where
  int : mg "int" = none
  len : mg "len" = none
section
variable {P : Program} {w : World} {K : PySem.W.Frag} {mg : Str → Option Value} {base : Heap}
theorem scMixed : FnScope ["_law_number", "_law_count"] ["_law_number", "_law_count"] (defScope sMixed) := ⟨rfl, rfl, rfl, by decide +kernel, rfl, by decide +kernel, by decide +kernel⟩
theorem ok_mixed {f : Addr} {fd : FuncData} (F : Fun K "_law_mixed" "_law_mixed" sMixed f fd) (T : TxtA mg) : FnOk P w K mg base CX0 1 f fd ["_law_number", "_law_count"] spMixed := by
  refine F.ok scMixed (fun vs H Q E h => ?_) (fun cdv A outer s H vs Q E hr h => ?_)
  · obtain ⟨n, c, rfl, _⟩ := h
    rfl
  · obtain ⟨n, c, rfl, k⟩ := h
    refine ⟨_, pss_cons (ps_set (i := 0) scMixed.nd rfl (Or.inl rfl) (pe_op op_mod (pe_op op_mul (pe_callTy call_int1 (by rfl) T.int boot_int (pa_cons (pe_op op_add (pe_op op_add (pv 0) (pe_op op_mul pe_int (pv 1))) pe_int) pa_nil)) pe_int) pe_int))
      (pss_cons (ps_set (i := 0) scMixed.nd rfl (Or.inl rfl) (pe_op op_mod (pe_op op_mul (pe_callTy call_int1 (by rfl) T.int boot_int (pa_cons (pv 0) pa_nil)) (pe_op op_add (pe_op op_fdiv (pv 0) pe_int) pe_int)) pe_int))
      (pss_cons (ps_set (i := 0) scMixed.nd rfl (Or.inl rfl) (pe_op op_mod (pe_op op_mul (pe_callTy call_int1 (by rfl) T.int boot_int (pa_cons (pv 0) pa_nil)) (pe_op op_add (pe_op op_fdiv (pv 0) pe_int) pe_int)) pe_int))
      (pss_one (ps_ret (pe_op op_fdiv (pv 0) pe_int))))), ?_⟩
    refine ⟨_, rfl, _, rfl, _, _, rfl, rfl, .inl (by decide), _, _, rfl, rfl, _, _, rfl, rfl, .inl ⟨_, rfl, _, _, rfl, rfl, .inr (by decide), _, _, rfl, rfl, (by show (0 : Int) < 2147483647; decide), ?_⟩⟩
    have m1 := Int.emod_nonneg ((n + 7919 * c + 1) * 48271) (show (2147483647 : Int) ≠ 0 by decide)
    have m2 := Int.emod_lt_of_pos ((n + 7919 * c + 1) * 48271) (show (0 : Int) < 2147483647 by decide)
    generalize (n + 7919 * c + 1) * 48271 % 2147483647 = x at m1 m2 ⊢
    refine ⟨_, rfl, .inl ⟨_, rfl, _, rfl, _, _, rfl, rfl, ⟨by decide, by decide⟩, _, _, rfl, rfl, _, _, rfl, rfl, .inl (by omega), _, _, rfl, rfl, (by show (0 : Int) < 2147483647; decide), ?_⟩⟩
    have m3 := Int.emod_nonneg (x * (x / 1009 + 69621)) (show (2147483647 : Int) ≠ 0 by decide)
    have m4 := Int.emod_lt_of_pos (x * (x / 1009 + 69621)) (show (0 : Int) < 2147483647 by decide)
    generalize x * (x / 1009 + 69621) % 2147483647 = y at m3 m4 ⊢
    refine ⟨_, rfl, .inl ⟨_, rfl, _, rfl, _, _, rfl, rfl, ⟨by decide, by decide⟩, _, _, rfl, rfl, _, _, rfl, rfl, .inl (by omega), _, _, rfl, rfl, (by show (0 : Int) < 2147483399; decide), ?_⟩⟩
    exact ⟨_, rfl, _, _, rfl, rfl, ⟨by decide, by decide⟩, k _⟩
theorem scDraw : FnScope ["_law_source_here", "_law_many", "_law_cell"] ["_law_source_here", "_law_many"] (defScope sDraw) := ⟨rfl, rfl, rfl, by decide +kernel, rfl, by decide +kernel, by decide +kernel⟩
theorem ok_draw {f fM : Addr} {fd fdM : FuncData} (F : Fun K "_law_draw" "_law_draw" sDraw f fd) (T : TxtA mg) (FM : Fun K "_law_mixed" "_law_mixed" sMixed fM fdM) (bM : Binds K fdM ["_law_number", "_law_count"] []) (mM : mg "_law_mixed" = some (.ref fM)) :
    FnOk P w K mg base CX0 2 f fd ["_law_source_here", "_law_many"] spDraw := by
  have G : FnOk P w K mg base CX0 1 fM fdM ["_law_number", "_law_count"] spMixed := ok_mixed FM T
  refine F.ok scDraw (fun vs H Q E h => ?_) (fun cdv A outer s H vs Q E hr h => ?_)
  · obtain ⟨a, c, m, rfl, _⟩ := h
    rfl
  · obtain ⟨a, c, m, rfl, ⟨ne, ns, i, sm, n, ha, hc, hl⟩, hm, hm2, k⟩ := h
    refine ⟨_, pss_cons (ps_asg (pe_op op_add (pe_ix ix_list (pv 0) pe_int (fun _ _ => rfl)) pe_int) (pg_sub (pv 0) pe_int set_list))
      (pss_cons (ps_if (pt_cmpR op_ge (pe_ix ix_list (pv 0) pe_int (fun _ _ => rfl)) (pe_callB call_len_seq (by rfl) T.len boot_len (pa_cons (pe_ix ix_list (pv 0) pe_int (fun _ _ => rfl)) pa_nil)) (nomark _))
        (pss_one (ps_ret (pe_op op_mod (pe_callTy call_int1 (by rfl) T.int boot_int (pa_cons (pe_call G hr (by rfl) mM FM.kp bM .nil pass0 (pa_cons (pe_ix ix_list (pv 0) pe_int (fun _ _ => rfl)) (pa_cons (pe_ix ix_list (pv 0) pe_int (fun _ _ => rfl)) pa_nil))) pa_nil)) (pv 1)))) pss_nil)
      (pss_cons (ps_set (i := 2) scDraw.nd rfl (Or.inl rfl) (pe_ix ix_list (pe_ix ix_list (pv 0) pe_int (fun _ _ => rfl)) (pe_ix ix_list (pv 0) pe_int (fun _ _ => rfl)) (fun _ _ => rfl)))
      (pss_cons (ps_if (pt_cmpR op_lt (pv 2) (pe_op op_pow pe_int pe_int) (nomark _))
        (pss_cons (ps_asg (pe_op op_add (pe_ix ix_list (pv 0) pe_int (fun _ _ => rfl)) pe_int) (pg_sub (pv 0) pe_int set_list))
        (pss_one (ps_ret (pe_op op_mod (pe_callTy call_int1 (by rfl) T.int boot_int (pa_cons (pe_call G hr (by rfl) mM FM.kp bM .nil pass0 (pa_cons (pv 2) (pa_cons (pe_ix ix_list (pv 0) pe_int (fun _ _ => rfl)) pa_nil))) pa_nil)) (pv 1))))) pss_nil)
      (pss_cons (ps_asg (pe_op op_fdivW (pv 2) (pv 1)) (pg_sub (pe_ix ix_list (pv 0) pe_int (fun _ _ => rfl)) (pe_ix ix_list (pv 0) pe_int (fun _ _ => rfl)) set_list))
      (pss_one (ps_ret (pe_op op_mod (pe_callTy call_int1 (by rfl) T.int boot_int (pa_cons (pv 2) pa_nil)) (pv 1)))))))), ?_⟩
    -- source[3] = source[3] + 1
    refine ⟨_, rfl, a, _, _, _, rfl, rfl, SqL.of ha, rfl, _, _, rfl, rfl, _, rfl, a, _, _, _, rfl, rfl, ha, rfl, ?_⟩
    have h1 : upd H a (.lst [.ref c, .int (i : Int), .int sm, .int (n + 1)]) a = some (.lst [.ref c, .int (i : Int), .int sm, .int (n + 1)]) := upd_same
    have h2 : upd H a (.lst [.ref c, .int (i : Int), .int sm, .int (n + 1)]) c = some (.lst (ns.map V.int)) := by rw [upd_ne ne.symm]; exact hc
    have k1 : Keep a c H (upd H a (.lst [.ref c, .int (i : Int), .int sm, .int (n + 1)])) := fun b o e nb _ => by rw [upd_ne nb]; exact e
    -- the test
    refine ⟨_, rfl, a, _, _, _, rfl, rfl, SqL.of h1, rfl, _, rfl, a, _, _, _, rfl, rfl, SqL.of h1, rfl, c, _, rfl, .inl (SqL.of h2), _, _, rfl, rfl, _, rfl, ?_⟩
    refine ite2 (fun hge => ?_) (fun hlt => ?_)
    · refine ⟨_, rfl, a, _, _, _, rfl, rfl, SqL.of h1, rfl, _, rfl, a, _, _, _, rfl, rfl, SqL.of h1, rfl, _, _, rfl, fun x => .inl ⟨_, rfl, _, rfl, _, _, rfl, rfl, hm, ?_⟩⟩
      exact k _ _ (Int.emod_nonneg _ (by omega)) (Int.emod_lt_of_pos _ hm) ⟨ne, ns, i, sm, n + 1, h1, h2, hl⟩ k1
    · have hi : i < ns.length := by
        have z : ¬ ((ns.map V.int).length : Int) ≤ (i : Int) := fun q => hlt (decide_eq_true q)
        rw [List.length_map] at z
        omega
      have hat : atI (ns.map V.int) (i : Int) = some (V.int ns[i]) := atI_nat (by simp [hi])
      refine ⟨_, rfl, a, _, _, _, rfl, rfl, SqL.of h1, rfl, _, rfl, a, _, _, _, rfl, rfl, SqL.of h1, rfl, c, _, _, _, rfl, rfl, SqL.of h2, hat, ?_⟩
      refine ⟨_, rfl, _, _, rfl, rfl, ⟨by decide, by decide, by decide⟩, _, _, rfl, rfl, _, rfl, ?_⟩
      refine ite2 (fun hsm => ?_) (fun hbig => ?_)
      · refine ⟨_, rfl, a, _, _, _, rfl, rfl, SqL.of h1, rfl, _, _, rfl, rfl, _, rfl, a, _, _, _, rfl, rfl, h1, rfl, ?_⟩
        have g1 : upd (upd H a (.lst [.ref c, .int (i : Int), .int sm, .int (n + 1)])) a (.lst [.ref c, .int ((i : Int) + 1), .int sm, .int (n + 1)]) a = some (.lst [.ref c, .int ((i + 1 : Nat) : Int), .int sm, .int (n + 1)]) := by rw [upd_same]; rfl
        have g2 : upd (upd H a (.lst [.ref c, .int (i : Int), .int sm, .int (n + 1)])) a (.lst [.ref c, .int ((i : Int) + 1), .int sm, .int (n + 1)]) c = some (.lst (ns.map V.int)) := by rw [upd_ne ne.symm]; exact h2
        have k2 : Keep a c H (upd (upd H a (.lst [.ref c, .int (i : Int), .int sm, .int (n + 1)])) a (.lst [.ref c, .int ((i : Int) + 1), .int sm, .int (n + 1)])) := k1.trans fun b o e nb _ => by rw [upd_ne nb]; exact e
        refine ⟨_, rfl, _, rfl, a, _, _, _, rfl, rfl, SqL.of g1, rfl, _, _, rfl, fun x => .inl ⟨_, rfl, _, rfl, _, _, rfl, rfl, hm, ?_⟩⟩
        exact k _ _ (Int.emod_nonneg _ (by omega)) (Int.emod_lt_of_pos _ hm) ⟨ne, ns, i + 1, sm, n + 1, g1, g2, hl⟩ k2
      · have hix : ixN (ns.map V.int).length (i : Int) = some i := by
          unfold ixN
          rw [if_pos (by omega), if_pos (by rw [List.length_map]; omega)]
          rfl
        refine ⟨_, rfl, _, rfl, _, _, rfl, rfl, ⟨hm, hm2⟩, _, rfl, a, _, _, _, rfl, rfl, SqL.of h1, rfl, _, rfl, a, _, _, _, rfl, rfl, SqL.of h1, rfl, c, _, _, _, rfl, rfl, h2, hix, ?_⟩
        refine ⟨_, rfl, .inl ⟨_, rfl, _, rfl, _, _, rfl, rfl, hm, ?_⟩⟩
        refine k _ _ (Int.emod_nonneg _ (by omega)) (Int.emod_lt_of_pos _ hm) ⟨ne, ns.set i (ns[i] / m), i, sm, n + 1, ?_, ?_, by rw [List.length_set]; exact hl⟩ (k1.trans fun b o e _ nb => by rw [upd_ne nb]; exact e)
        · rw [upd_ne ne]; exact h1
        · rw [upd_same, List.map_set]
end
end Oh
namespace Oh
open PySem PySem.Spec PyProof.Rows L2
/-- from the script's list: a new source -/
def spSource (K : PySem.W.Frag) : Sp := fun vs H Q _ => ∃ (a : Addr) (ns : List Int), vs = [.ref a] ∧ SqL K H a (ns.map V.int) ∧ ns.length ≤ 63 ∧ ∀ (p c : Addr) (H' : Hp), Same H H' → Src H' p c → Q (.ref p) H'
section
variable {P : Program} {w : World} {K : PySem.W.Frag} {mg : Str → Option Value} {base : Heap}
theorem Same.new {H : Hp} {p : Addr} {o : HO} (h : H p = none) : Same H (upd H p o) := fun b u e => by
  rw [upd_ne (ne_of_none e h)]
  exact e
theorem ints_at {ns : List Int} {i : Nat} {y : V} (h : (ns.map V.int)[i]? = some y) : ∃ z, y = .int z ∧ ns[i]? = some z := by
  rw [List.getElem?_map] at h
  cases e : ns[i]? with
  | none => rw [e] at h; cases h
  | some z => rw [e] at h; exact ⟨z, (Option.some.inj h).symm, rfl⟩
theorem cut_ints (ns : List Int) (lo hi : Option Int) : ∃ ms : List Int, cutV (ns.map V.int) lo hi = ms.map V.int ∧ ms.length ≤ ns.length := by
  unfold cutV
  refine ⟨(ns.drop _).take _, by rw [List.map_take, List.map_drop], ?_⟩
  rw [List.length_take, List.length_drop]
  omega
theorem scSource : FnScope ["_law_script", "_law_cells", "_law_cell"] ["_law_script"] (defScope sSource) := ⟨rfl, rfl, rfl, by decide +kernel, rfl, by decide +kernel, by decide +kernel⟩
theorem ok_source {f : Addr} {fd : FuncData} (F : Fun K "_law_source" "_law_source" sSource f fd) (T : TxtA mg) (mS : mg "sum" = none) : FnOk P w K mg base CX0 1 f fd ["_law_script"] (spSource K) := by
  refine F.ok scSource (fun vs H Q E h => ?_) (fun cdv A outer s H vs Q E hr h => ?_)
  · obtain ⟨a, ns, rfl, _⟩ := h
    rfl
  · obtain ⟨a, ns, rfl, ha, hl, k⟩ := h
    refine ⟨_, pss_cons (ps_setLc (i := 1) (own := [("_law_cell", 2)]) (g := gName 2) (tt := tYes) rfl scSource.nd rfl rfl (sw_true rfl rfl rfl (by decide +kernel)) (pi_list (pe_slice sl_list (pv 0) po_none (po_some pe_int)))
        (blkOk_by (N := ["_law_script", "_law_cells", "_law_cell"]) (sc := defScope sSource) (by decide +kernel)) (fun _ _ _ _ _ => pg_name (i := 2) scSource.nd rfl (Or.inl rfl)) (fun _ _ _ _ _ => pts_nil) (fun _ _ _ _ _ => pe_callTy call_int1 (by rfl) T.int boot_int (pa_cons (pv 2) pa_nil)))
      (pss_one (ps_ret (pe_lst (pa_cons (pv 1) (pa_cons pe_int (pa_cons (pe_op op_mod (pe_callTy call_int1 (by rfl) T.int boot_int (pa_cons (pe_callB (cr_sum rfl) (by rfl) mS (by decide +kernel) (pa_cons (pv 1) pa_nil)) pa_nil)) pe_int) (pa_cons pe_int pa_nil))))))), ?_⟩
    obtain ⟨ms, em, hm⟩ := cut_ints ns none (some 63)
    refine ⟨_, rfl, _, rfl, a, _, rfl, ha, fun p np => ?_⟩
    have hp : (upd H p (.lst (cutV (ns.map V.int) none (some 63)))) p = some (.lst (ms.map V.int)) := by rw [upd_same, em]
    refine ⟨p, rfl, ⟨_, SqL.of hp⟩, fun D hD => lc_list (K := K) (a := p) (xs := ms.map V.int) (fun i H2 => Same (upd H p (.lst (cutV (ns.map V.int) none (some 63)))) H2 ∧ H2 D = some (.lst ((ms.take i).map V.int)))
      ⟨Same.new hD, by rw [upd_same]; rfl⟩ (fun i H2 _ q => SqL.of (q.1 _ _ hp)) ?_ ?_⟩
    · rintro i y H2 hi ⟨q1, q2⟩
      obtain ⟨z, rfl, ez⟩ := ints_at hi
      refine ⟨rfl, _, rfl, .inl ⟨_, rfl, _, q2, ?_, ?_⟩⟩
      · rw [List.length_map, List.length_take]
        exact small1000 (by omega)
      · refine ⟨fun b o e => ?_, ?_⟩
        · rw [upd_ne (ne_of_none e hD)]
          exact q1 b o e
        · rw [upd_same, List.take_succ, ez]
          simp
    · rintro H2 ⟨q1, q2⟩
      rw [List.length_map, List.take_length] at q2
      refine ⟨_, rfl, _, rfl, _, _, rfl, SqL.of q2, .inl ⟨_, rfl, _, _, rfl, rfl, (by show (0 : Int) < 2147483629; decide), (by show 4 ≤ sizeLine; decide), fun r nr => ?_⟩⟩
      have nD : D ≠ r := ne_of_none q2 nr
      exact k r D _ ((Same.new np).trans (q1.trans (Same.new nr))) ⟨nD.symm, ms, 0, _, 0, by rw [upd_same]; rfl, by rw [upd_ne nD]; exact q2, by omega⟩
end
end Oh
namespace Oh
open PySem PySem.Spec PyProof.Rows L2
/-- a value without parts -/
def Flat (v : V) : Prop := v = .non ∨ (∃ b, v = .bl b) ∨ (∃ i, v = .int i) ∨ ∃ z : Str, v = .str z
/-- a value at most n deep whose tuples, lists and dicts stand where F lets them stand -/
def OV (H : Hp) (F : Addr → Prop) : Nat → V → Prop
  | 0, v => Flat v
  | n + 1, v => Flat v ∨ ∃ p, v = .ref p ∧ F p ∧ ((∃ xs, H p = some (.tup xs) ∧ xs.length ≤ 3 ∧ ∀ x ∈ xs, OV H F n x) ∨ (∃ xs, H p = some (.lst xs) ∧ xs.length ≤ 3 ∧ ∀ x ∈ xs, OV H F n x) ∨
      ∃ (kvs : List (L2.Key × V)) (g : Nat → V), H p = some (.dK kvs) ∧ kvs.length ≤ 3 ∧ ∀ k < kvs.length, valV kvs (Sum.inl (k : Int)) = some (g k) ∧ OV H F n (g k))
theorem OV.flat {H : Hp} {F : Addr → Prop} {v : V} (h : Flat v) : ∀ n, OV H F n v
  | 0 => h
  | _ + 1 => .inl h
theorem OV.keep {H H' : Hp} {F G : Addr → Prop} (hk : ∀ p o, F p → H p = some o → H' p = some o) (hF : ∀ p, F p → G p) : ∀ {n : Nat} {v : V}, OV H F n v → OV H' G n v
  | 0, _, h => h
  | n + 1, v, h => by
    rcases h with h | ⟨p, e, f, h⟩
    · exact .inl h
    · refine .inr ⟨p, e, hF p f, ?_⟩
      rcases h with ⟨xs, h1, h2, h3⟩ | ⟨xs, h1, h2, h3⟩ | ⟨kvs, g, h1, h2, h3⟩
      · exact .inl ⟨xs, hk p _ f h1, h2, fun x hx => OV.keep hk hF (h3 x hx)⟩
      · exact .inr (.inl ⟨xs, hk p _ f h1, h2, fun x hx => OV.keep hk hF (h3 x hx)⟩)
      · exact .inr (.inr ⟨kvs, g, hk p _ f h1, h2, fun k hk' => ⟨(h3 k hk').1, OV.keep hk hF (h3 k hk').2⟩⟩)
theorem Src.some_a {H : Hp} {a c : Addr} (s : Src H a c) : ∃ o, H a = some o := by
  obtain ⟨_, ns, i, sm, k, h1, _⟩ := s
  exact ⟨_, h1⟩
theorem Src.some_c {H : Hp} {a c : Addr} (s : Src H a c) : ∃ o, H c = some o := by
  obtain ⟨_, ns, i, sm, k, _, h2, _⟩ := s
  exact ⟨_, h2⟩
theorem free_ne {H : Hp} {a p : Addr} (s : ∃ o, H a = some o) (h : H p = none) : p ≠ a := fun e => by
  obtain ⟨o, q⟩ := s
  rw [e, q] at h
  cases h
theorem dom_back {H H' : Hp} {a c p : Addr} (k : Keep a c H H') (s' : Src H' a c) (h : H' p = none) : H p = none := by
  cases e : H p with
  | none => rfl
  | some o =>
    have q := k p o e (free_ne s'.some_a h) (free_ne s'.some_c h)
    rw [h] at q
    cases q
theorem Src.of_ne {H : Hp} {a c p : Addr} {o : HO} (s : Src H a c) (h1 : a ≠ p) (h2 : c ≠ p) : Src (upd H p o) a c := by
  obtain ⟨n, ns, i, sm, k, x1, x2, x3⟩ := s
  exact ⟨n, ns, i, sm, k, by rw [upd_ne h1]; exact x1, by rw [upd_ne h2]; exact x2, x3⟩
theorem Src.new {H : Hp} {a c p : Addr} {o : HO} (s : Src H a c) (h : H p = none) : Src (upd H p o) a c := s.of_ne (free_ne s.some_a h).symm (free_ne s.some_c h).symm
def spOdd (n : Nat) : Sp := fun vs H Q _ => ∃ a c : Addr, vs = [.ref a, .int (n : Int)] ∧ Src H a c ∧ ∀ (v : V) (H' : Hp), OV H' (fun p => H p = none) n v → Src H' a c → Keep a c H H' → Q v H'
def spPrev : Nat → Sp
  | 0 => fun _ _ _ _ => False
  | n + 1 => spOdd n
theorem never_ok {P : Program} {w : World} {K : PySem.W.Frag} {mg : Str → Option Value} {base : Heap} {CX : CXT} {k : Nat} {f : Addr} {fd : FuncData} {ps : List Str} : FnOk P w K mg base CX k f fd ps (fun _ _ _ _ => False) :=
  ⟨fun _ _ _ _ h => h.elim, fun _ _ _ _ _ _ _ _ _ _ _ _ _ h => h.elim⟩
theorem log2_small {m : Int} (h0 : 0 < m) (h : m < 2 ^ 200) : m.natAbs.log2 < 9000 := by
  have z : m.natAbs < 2 ^ 200 := by omega
  exact Nat.lt_trans (PySem.Flt.log2_lt_of (by decide) z) (by decide)
theorem keyI {i j : Nat} (h : (Sum.inl (i : Int) : L2.Key) = Sum.inl (j : Int)) : i = j := by
  have z := Sum.inl.inj h
  omega
theorem mem_map_get {α : Type} {xs : List α} {i : Nat} {x : α} (h : xs[i]? = some x) : x ∈ xs := by
  obtain ⟨h1, h2⟩ := List.getElem?_eq_some_iff.mp h
  exact h2 ▸ List.getElem_mem h1
section
variable {P : Program} {w : World} {K : PySem.W.Frag} {mg : Str → Option Value} {base : Heap}
abbrev nOdd : List Str := ["_law_source_here", "_law_deep", "_law_kind", "_law_parts", "_law_found", "_law_k"]
theorem scOdd : FnScope nOdd ["_law_source_here", "_law_deep"] (defScope sOdd) := ⟨rfl, rfl, rfl, by decide +kernel, rfl, by decide +kernel, by decide +kernel⟩
structure TxtO (mg : Str → Option Value) : Prop extends TxtA mg where
  range : mg "range" = none
  tuple : mg "tuple" = none
theorem odd_step {n : Nat} {f fD : Addr} {fd fdD : FuncData} (F : Fun K "_law_odd" "_law_odd" sOdd f fd) (T : TxtO mg) (GD : FnOk P w K mg base CX0 2 fD fdD ["_law_source_here", "_law_many"] spDraw) (kD : PySem.W.keepIn K (.ref fD) = true)
    (bD : Binds K fdD ["_law_source_here", "_law_many"] []) (mD : mg "_law_draw" = some (.ref fD)) (mO : mg "_law_odd" = some (.ref f)) (bO : Binds K fd ["_law_source_here", "_law_deep"] [])
    (GP : FnOk P w K mg base CX0 (n + 2) f fd ["_law_source_here", "_law_deep"] (spPrev n)) : FnOk P w K mg base CX0 (n + 3) f fd ["_law_source_here", "_law_deep"] (spOdd n) := by
  refine F.ok scOdd (fun vs H Q E h => ?_) (fun cdv A outer s H vs Q E hr h => ?_)
  · obtain ⟨a, c, rfl, _⟩ := h
    rfl
  · obtain ⟨a, c, rfl, S, k⟩ := h
    have hr2 : Room 2 _ := hr.mono (by omega)
    have hu := hu_of hr
    refine ⟨_, pss_cons (ps_set (i := 2) scOdd.nd rfl (Or.inl rfl) (pe_call GD hr2 (by rfl) mD kD bD .nil pass0 (pa_cons (pv 0) (pa_cons pe_int pa_nil))))
      (pss_cons (ps_if (pw_and (pt_cmpR op_lt (pv 2) pe_int (nomark _)) (pw_and1 (pt_cmpR op_gt (pv 1) pe_int (nomark _)))).pt
        (pss_cons (ps_setLc (i := 3) (own := [("_law_k", 5)]) (g := gName 5) (tt := tYes) rfl scOdd.nd rfl rfl (sw_true rfl rfl rfl (by decide +kernel)) (pi_range1 (by rfl) T.range (pa_cons (pe_call GD hr2 (by rfl) mD kD bD .nil pass0 (pa_cons (pv 0) (pa_cons pe_int pa_nil))) pa_nil))
          (blkOk_by (N := nOdd) (sc := defScope sOdd) (by decide +kernel)) (fun _ _ _ _ _ => pg_name (i := 5) scOdd.nd rfl (Or.inl rfl)) (fun _ _ _ _ _ => pts_nil) (fun _ _ _ _ _ => pe_call GP hr (by rfl) mO F.kp bO .nil pass0 (pa_cons (pv 0) (pa_cons (pe_op op_sub (pv 1) pe_int) pa_nil))))
        (pss_cons (ps_if (pt_cmpR op_eq (pv 2) pe_int (nomark _)) (pss_one (ps_ret (pe_callTy call_tuple_of (by rfl) T.tuple (by decide +kernel) (pa_cons (pv 3) pa_nil)))) pss_nil)
        (pss_cons (ps_if (pt_cmpR op_eq (pv 2) pe_int (nomark _)) (pss_one (ps_ret (pv 3))) pss_nil)
        (pss_cons (ps_set (i := 4) scOdd.nd rfl (Or.inl rfl) pe_dnewK)
        (pss_cons (ps_for PassesOwn.never rfl (pi_range1 (by rfl) T.range (pa_cons (pe_callB call_len_seq (by rfl) T.len boot_len (pa_cons (pv 3) pa_nil)) pa_nil)) (pg_name (i := 5) scOdd.nd rfl (Or.inl rfl))
          (pss_one (ps_dput hu (pv 4) (pv 5) (pe_ix ix_list (pv 3) (pv 5) (fun _ _ => rfl)) rfl)))
        (pss_one (ps_ret (pv 4)))))))) pss_nil)
      (pss_cons (ps_if (pt_cmpR op_lt (pv 2) pe_int (nomark _)) (pss_one (ps_ret pe_non)) pss_nil)
      (pss_cons (ps_if (pt_cmpR op_lt (pv 2) pe_int (nomark _)) (pss_one (ps_ret (pe_cmpR op_eq (pe_call GD hr2 (by rfl) mD kD bD .nil pass0 (pa_cons (pv 0) (pa_cons pe_int pa_nil))) pe_int (nomark _)))) pss_nil)
      (pss_cons (ps_if (pt_cmpR op_eq (pv 2) pe_int (nomark _)) (pss_one (ps_ret (pe_un un_neg (pe_call GD hr2 (by rfl) mD kD bD .nil pass0 (pa_cons (pv 0) (pa_cons pe_int pa_nil)))))) pss_nil)
      (pss_cons (ps_if (pt_cmpR op_eq (pv 2) pe_int (nomark _)) (pss_one (ps_ret (pe_call GD hr2 (by rfl) mD kD bD .nil pass0 (pa_cons (pv 0) (pa_cons (pe_op op_pow pe_int pe_int) pa_nil))))) pss_nil)
      (pss_one (ps_ret (pe_join pe_str (pe_lc (own := [("_law_k", 5)]) (g := gName 5) (tt := tYes) rfl scOdd.nd (pi_range1 (by rfl) T.range (pa_cons (pe_call GD hr2 (by rfl) mD kD bD .nil pass0 (pa_cons (pv 0) (pa_cons pe_int pa_nil))) pa_nil))
          (blkOk_by (N := nOdd) (sc := defScope sOdd) (by decide +kernel)) (fun _ _ _ _ _ => pg_name (i := 5) scOdd.nd rfl (Or.inl rfl)) (fun _ _ _ _ _ => pts_nil) (fun _ _ _ _ _ => pe_ix ix_str pe_str (pe_call GD hr2 (by rfl) mD kD bD .nil pass0 (pa_cons (pv 0) (pa_cons pe_int pa_nil))) (fun _ _ => rfl))))))))))), ?_⟩
    refine ⟨_, rfl, a, c, 11, rfl, S, by decide, log2_small (by decide) (by decide), fun d H1 d0 d1 S1 K1 => ?_⟩
    refine ⟨_, rfl, _, _, rfl, rfl, _, rfl, ite2 (fun _ => ⟨_, rfl, _, _, rfl, rfl, _, rfl, ite2 (fun c2 => ?parts) (fun _ => ?rest1)⟩) (fun _ => iteF ?rest2)⟩
    case parts =>
      cases n with
      | zero => exact absurd (of_decide_eq_true c2) (by decide)
      | succ m =>
        refine ⟨_, rfl, a, c, 4, rfl, S1, by decide, log2_small (by decide) (by decide), fun e H2 e0 e1 S2 K2 => ⟨_, rfl, by omega, by omega, fun D hD => lc_range (lo := 0) (n := e.toNat)
          (fun i H' => ∃ xs : List V, H' D = some (.lst xs) ∧ xs.length = i ∧ (∀ x ∈ xs, OV H' (fun p => H2 p = none ∧ p ≠ D) m x) ∧ Src H' a c ∧ Keep a c H2 H')
          ⟨[], upd_same, rfl, fun x hx => absurd hx (by simp), S2.new hD, Keep.of_same (Same.new hD)⟩ ?_ ?_⟩⟩
        · rintro i H' hi ⟨xs, h1, h2, h3, h4, h5⟩
          have Da : D ≠ a := free_ne S2.some_a hD
          have Dc : D ≠ c := free_ne S2.some_c hD
          refine ⟨rfl, _, rfl, _, rfl, _, _, rfl, rfl, a, c, (by show [V.ref a, V.int (((m + 1 : Nat) : Int) - 1)] = [V.ref a, V.int (m : Int)]; rw [show ((m + 1 : Nat) : Int) - 1 = (m : Int) by omega]), h4, fun v H3 o3 S3 K3 => ?_⟩
          have hD3 : H3 D = some (.lst xs) := K3 D _ h1 Da Dc
          refine ⟨xs, hD3, small1000 (by omega), xs ++ [v], upd_same, by rw [List.length_append, h2]; rfl, fun x hx => ?_, S3.of_ne Da.symm Dc.symm, fun b o hb na nc => ?_⟩
          · rcases List.mem_append.mp hx with hx | hx
            · refine OV.keep (fun p o f hp => ?_) (fun p f => f) (h3 x hx)
              rw [upd_ne f.2]
              exact K3 p o hp (free_ne S2.some_a f.1) (free_ne S2.some_c f.1)
            · rw [List.mem_singleton.mp hx]
              refine OV.keep (fun p o f hp => ?_) (fun p f => ⟨dom_back h5 h4 f, free_ne ⟨_, h1⟩ f⟩) o3
              rw [upd_ne (free_ne ⟨_, h1⟩ f)]
              exact hp
          · rw [upd_ne (ne_of_none hb hD)]
            exact K3 b o (h5 b o hb na nc) na nc
        · rintro H4 ⟨xs, h1, h2, h3, h4, h5⟩
          have hx3 : xs.length ≤ 3 := by omega
          have K4 : Keep a c H H4 := K1.trans (K2.trans h5)
          have f2 : ∀ p, H2 p = none → H p = none := fun p q => dom_back K1 S1 (dom_back K2 S2 q)
          have f4 : ∀ p, H4 p = none → H p = none := fun p q => f2 p (dom_back h5 h4 q)
          refine ⟨_, rfl, rfl, _, rfl, ite2 (fun _ => ?_) (fun _ => ⟨_, rfl, rfl, _, rfl, ite2 (fun _ => ?_) (fun _ => ?_)⟩)⟩
          · -- a tuple
            refine ⟨_, rfl, D, xs, rfl, .inl ⟨SqL.of h1, fun l hl => ?_⟩⟩
            refine k _ _ (.inr ⟨l, rfl, f4 l hl, .inl ⟨xs, upd_same, hx3, fun x hx => OV.keep (fun p o f hp => ?_) (fun p f => f2 p f.1) (h3 x hx)⟩⟩) (h4.new hl) (K4.trans (Keep.of_same (Same.new hl)))
            rw [upd_ne (ne_of_none hp hl)]
            exact hp
          · -- a list
            exact ⟨_, rfl, k _ _ (.inr ⟨D, rfl, f2 D hD, .inr (.inl ⟨xs, h1, hx3, fun x hx => OV.keep (fun p o f hp => hp) (fun p f => f2 p f.1) (h3 x hx)⟩)⟩) h4 K4⟩
          · -- a dict
            intro q hq
            have nDq : D ≠ q := ne_of_none h1 hq
            have g1 : ∀ o, upd H4 q o D = some (.lst xs) := fun o => by rw [upd_ne nDq]; exact h1
            refine ⟨_, rfl, D, xs, rfl, .inl (SqL.of (g1 _)), _, rfl, by omega, by omega, for_range (lo := 0) (n := xs.length)
              (fun i σ H' => ∃ (kvs : List (L2.Key × V)) (v : Option V), σ = [some (.ref a), some (.int ((m + 1 : Nat) : Int)), some (.int d), some (.ref D), some (.ref q), v] ∧ H' = upd H4 q (.dK kvs) ∧ kvs.length = i ∧ (∀ j : Nat, j < i → valV kvs (Sum.inl (j : Int)) = xs[j]?) ∧ ∀ j : Nat, i ≤ j → valV kvs (Sum.inl (j : Int)) = none)
              ⟨[], _, rfl, rfl, rfl, fun j hj => absurd hj (by omega), fun j _ => rfl⟩ ?_ ?_⟩
            · rintro i σ H' hi ⟨kvs, v, rfl, rfl, hl, hv, hn⟩
              have hat : atI xs (0 + (i : Int)) = some xs[i] := at_of (j := i) (by omega) (by simp [hi])
              refine ⟨_, rfl, _, rfl, D, _, _, _, rfl, rfl, SqL.of (g1 _), hat, _, rfl, _, rfl, q, _, rfl, DPut.k (k := Sum.inl (0 + (i : Int))) upd_same (small1000 (by omega)), ?_⟩
              have e0 : (0 : Int) + (i : Int) = (i : Int) := by omega
              rw [e0]
              have en := putK_new xs[i] (hn i (Nat.le_refl _))
              refine ⟨putK kvs (Sum.inl (i : Int)) xs[i], _, rfl, by rw [upd_upd], by rw [en, List.length_append, hl]; rfl, fun j hj => ?_, fun j hj => ?_⟩
              · rw [valV_put]
                by_cases ej : j = i
                · subst ej
                  rw [if_pos rfl]
                  simp [hi]
                · rw [if_neg (fun z => ej (keyI z))]
                  exact hv j (by omega)
              · rw [valV_put, if_neg (fun z => by have := keyI z; omega)]
                exact hn j (by omega)
            · rintro σ H' ⟨kvs, v, rfl, rfl, hl, hv, hn⟩
              refine ⟨_, rfl, k _ _ (.inr ⟨q, rfl, f4 q hq, .inr (.inr ⟨kvs, fun j => xs.getD j .non, upd_same, by omega, fun j hj => ?_⟩)⟩) (h4.new hq) (K4.trans (Keep.of_same (Same.new hq)))⟩
              have hjx : j < xs.length := by omega
              refine ⟨by rw [hv j hjx]; simp [hjx], OV.keep (fun p o f hp => ?_) (fun p f => f2 p f.1) (h3 _ ?_)⟩
              · rw [upd_ne (ne_of_none hp hq)]
                exact hp
              · show xs.getD j .non ∈ xs
                rw [List.getD_eq_getElem?_getD, List.getElem?_eq_getElem hjx]
                exact List.getElem_mem hjx
    all_goals
      refine ⟨_, rfl, _, _, rfl, rfl, _, rfl, ite2 (fun _ => ?_) (fun _ => ?_)⟩
      · exact k _ _ (OV.flat (.inl rfl) n) S1 K1
      refine ⟨_, rfl, _, _, rfl, rfl, _, rfl, ite2 (fun _ => ?_) (fun _ => ?_)⟩
      · refine ⟨_, rfl, a, c, 2, rfl, S1, by decide, log2_small (by decide) (by decide), fun e H2 e0 e1 S2 K2 => ⟨rfl, ?_⟩⟩
        exact k _ _ (OV.flat (.inr (.inl ⟨_, rfl⟩)) n) S2 (K1.trans K2)
      refine ⟨_, rfl, rfl, _, rfl, ite2 (fun _ => ?_) (fun _ => ?_)⟩
      · refine ⟨_, rfl, a, c, 12, rfl, S1, by decide, log2_small (by decide) (by decide), fun e H2 e0 e1 S2 K2 => ⟨_, rfl, ?_⟩⟩
        exact k _ _ (OV.flat (.inr (.inr (.inl ⟨_, rfl⟩))) n) S2 (K1.trans K2)
      refine ⟨_, rfl, rfl, _, rfl, ite2 (fun _ => ?_) (fun _ => ?_)⟩
      · refine ⟨_, rfl, _, _, rfl, rfl, ⟨by decide, by decide, by decide⟩, a, c, _, rfl, S1, by decide, log2_small (by decide) (by decide), fun e H2 e0 e1 S2 K2 => ?_⟩
        exact k _ _ (OV.flat (.inr (.inr (.inl ⟨_, rfl⟩))) n) S2 (K1.trans K2)
      · refine ⟨⟨_, rfl⟩, _, rfl, a, c, 6, rfl, S1, by decide, log2_small (by decide) (by decide), fun e H2 e0 e1 S2 K2 => ⟨_, rfl, by omega, by omega, fun D hD => lc_range (lo := 0) (n := e.toNat)
          (fun i H' => ∃ ys : List Str, H' D = some (.lst (ys.map V.str)) ∧ ys.length = i ∧ (∀ y ∈ ys, y.length = 1) ∧ Src H' a c ∧ Keep a c H2 H')
          ⟨[], upd_same, rfl, fun x hx => absurd hx (by simp), S2.new hD, Keep.of_same (Same.new hD)⟩ ?_ ?_⟩⟩
        · rintro i H' hi ⟨ys, h1, h2, h3, h4, h5⟩
          have Da : D ≠ a := free_ne S2.some_a hD
          have Dc : D ≠ c := free_ne S2.some_c hD
          refine ⟨rfl, _, rfl, a, c, 12, rfl, h4, by decide, log2_small (by decide) (by decide), fun g H3 g0 g1 S3 K3 => ?_⟩
          obtain ⟨gn, rfl⟩ : ∃ gn : Nat, g = (gn : Int) := ⟨g.toNat, by omega⟩
          have hz : gn < (Str.ofString " a~Z7\n(leave").cps.toList.length := by
            rw [show (Str.ofString " a~Z7\n(leave").cps.toList.length = 12 by decide +kernel]
            omega
          have hat : atI (Str.ofString " a~Z7\n(leave").cps.toList (gn : Int) = some ((Str.ofString " a~Z7\n(leave").cps.toList[gn]'hz) := atI_nat (List.getElem?_eq_getElem hz)
          refine ⟨_, _, _, rfl, rfl, by decide +kernel, hat, ys.map V.str, K3 D _ h1 Da Dc, small1000 (by rw [List.length_map]; omega), ys ++ [⟨#[_]⟩], by rw [upd_same, List.map_append]; rfl, by rw [List.length_append, h2]; rfl, fun y hy => ?_, S3.of_ne Da.symm Dc.symm, fun b o hb na nc => ?_⟩
          · rcases List.mem_append.mp hy with hy | hy
            · exact h3 y hy
            · rw [List.mem_singleton.mp hy]
              rfl
          · rw [upd_ne (ne_of_none hb hD)]
            exact K3 b o (h5 b o hb na nc) na nc
        · rintro H4 ⟨ys, h1, h2, h3, h4, h5⟩
          have hs : (ys.map (·.length)).sum ≤ ys.length := by
            clear h1 h2
            induction ys with
            | nil => exact Nat.le_refl _
            | cons y r ih =>
              have z := ih fun x hx => h3 x (List.mem_cons_of_mem _ hx)
              have z1 := h3 y List.mem_cons_self
              show y.length + (r.map (·.length)).sum ≤ r.length + 1
              omega
          refine ⟨_, D, ys, rfl, rfl, .inl (SqL.of h1), ?_, k _ _ (OV.flat (.inr (.inr (.inr ⟨_, rfl⟩))) n) h4 (K1.trans (K2.trans h5))⟩
          rw [show (Str.ofString "").length = 0 by decide +kernel]
          omega
/-- every depth -/
theorem ok_odd {f fD : Addr} {fd fdD : FuncData} (F : Fun K "_law_odd" "_law_odd" sOdd f fd) (T : TxtO mg) (GD : FnOk P w K mg base CX0 2 fD fdD ["_law_source_here", "_law_many"] spDraw) (kD : PySem.W.keepIn K (.ref fD) = true)
    (bD : Binds K fdD ["_law_source_here", "_law_many"] []) (mD : mg "_law_draw" = some (.ref fD)) (mO : mg "_law_odd" = some (.ref f)) (bO : Binds K fd ["_law_source_here", "_law_deep"] []) :
    ∀ n, FnOk P w K mg base CX0 (n + 3) f fd ["_law_source_here", "_law_deep"] (spOdd n)
  | 0 => odd_step F T GD kD bD mD mO bO never_ok
  | n + 1 => odd_step F T GD kD bD mD mO bO (ok_odd F T GD kD bD mD mO bO n)
end
end Oh
namespace Oh
open PySem PySem.Spec PyProof.Rows L2
/-- the same flat value twice, or two empty tuples: they are alike -/
def spAlike (K : PySem.W.Frag) : Sp := fun vs H Q _ => ∃ x y : V, vs = [x, y] ∧ ((x = y ∧ Flat y) ∨ ∃ p q, x = .ref p ∧ y = .ref q ∧ H p = some (.tup []) ∧ H q = some (.tup [])) ∧ ∀ H', Same H H' → Q (.bl true) H'
structure TxtI (mg : Str → Option Value) : Prop where
  isi : mg "isinstance" = none
  bool : mg "bool" = none
  int : mg "int" = none
  str : mg "str" = none
  tuple : mg "tuple" = none
  list : mg "list" = none
  dict : mg "dict" = none
  len : mg "len" = none
  range : mg "range" = none
theorem kitNo {K : PySem.W.Frag} {a b : String} (h : kitB a b = some false) : PySem.W.kitOne K (.type a) (.type b) = some false := kit_ty h
theorem kitYes {K : PySem.W.Frag} {a b : String} (h : kitB a b = some true) : PySem.W.kitOne K (.type a) (.type b) = some true := kit_ty h
section
variable {P : Program} {w : World} {K : PySem.W.Frag} {mg : Str → Option Value} {base : Heap}
abbrev nAl : List Str := ["_law_actual", "_law_due", "_law_k"]
theorem scAlike : FnScope nAl ["_law_actual", "_law_due"] (defScope sAlike) := ⟨rfl, rfl, rfl, by decide +kernel, rfl, by decide +kernel, by decide +kernel⟩
theorem ok_alike {f : Addr} {fd : FuncData} (F : Fun K "_law_alike" "_law_alike" sAlike f fd) (T : TxtI mg) : FnOk P w K mg base CX0 1 f fd ["_law_actual", "_law_due"] (spAlike K) := by
  refine F.ok scAlike (fun vs H Q E h => ?_) (fun cdv A outer s H vs Q E hr h => ?_)
  · obtain ⟨x, y, rfl, _⟩ := h
    rfl
  · obtain ⟨x, y, rfl, hxy, k⟩ := h
    have k0 := k H (Same.refl H)
    refine ⟨_, pss_cons (ps_if (pt_cmp (pc_isN (pv 1))) (pss_one (ps_ret (pe_cmp (pc_isN (pv 0))))) pss_nil)
      (pss_cons (ps_if (pt_val (pe_isi (pv 1) mono_var T.isi T.bool bb_bool)) (pss_one (ps_ret (pe_and (pe_isi (pv 0) mono_var T.isi T.bool bb_bool) (pe_one (pe_cmpR op_eq (pv 0) (pv 1) (nomark _)))))) pss_nil)
      (pss_cons (ps_if (pt_val (pe_isi (pv 1) mono_var T.isi T.int bb_int)) (pss_one (ps_ret (pe_and (pe_isi (pv 0) mono_var T.isi T.int bb_int) (pe_and (pe_not (pe_isi (pv 0) mono_var T.isi T.bool bb_bool)) (pe_one (pe_cmpR op_eq (pv 0) (pv 1) (nomark _))))))) pss_nil)
      (pss_cons (ps_if (pt_val (pe_isi (pv 1) mono_var T.isi T.str bb_str)) (pss_one (ps_ret (pe_and (pe_isi (pv 0) mono_var T.isi T.str bb_str) (pe_one (pe_cmpR op_eq (pv 0) (pv 1) (nomark _)))))) pss_nil)
      (pss_cons (ps_if (pw_and (pt_val (pe_isi (pv 1) mono_var T.isi T.tuple bb_tuple)) (pw_and1 (pt_not (pt_val (pe_isi (pv 0) mono_var T.isi T.tuple bb_tuple))))).pt (pss_one (ps_ret pe_bl)) pss_nil)
      (pss_cons (ps_if (pw_and (pt_val (pe_isi (pv 1) mono_var T.isi T.list bb_list)) (pw_and1 (pt_not (pt_val (pe_isi (pv 0) mono_var T.isi T.list bb_list))))).pt (pss_one (ps_ret pe_bl)) pss_nil)
      (pss_cons (ps_if (pt_cmpR op_ne (pe_callB call_len_seq (by rfl) T.len boot_len (pa_cons (pv 0) pa_nil)) (pe_callB call_len_seq (by rfl) T.len boot_len (pa_cons (pv 1) pa_nil)) (nomark _)) (pss_one (ps_ret pe_bl)) pss_nil)
      (pss_cons (ps_for PassesOwn.never rfl (pi_range1 (by rfl) T.range (pa_cons (pe_callB call_len_seq (by rfl) T.len boot_len (pa_cons (pv 1) pa_nil)) pa_nil)) (pg_name (i := 2) scAlike.nd rfl (Or.inl rfl)) (pss_one ps_never))
      (pss_one (ps_ret pe_bl))))))))), ?_⟩
    have no : ∀ {a b : V}, a ≠ b → ¬ decide (a = b) = true := fun h z => h (of_decide_eq_true z)
    rcases hxy with ⟨rfl, hf⟩ | ⟨p, q, rfl, rfl, hp, hq⟩
    · have yes : V.bl (decide (x = x)) = V.bl true := by rw [decide_eq_true rfl]
      rcases hf with rfl | ⟨b, rfl⟩ | ⟨i, rfl⟩ | ⟨z, rfl⟩
      · exact ⟨_, rfl, _, rfl, iteT ⟨_, rfl, k0⟩⟩
      · refine ⟨_, rfl, _, rfl, ite2 (fun z => absurd z (no (by intro q; cases q))) fun _ => ?_⟩
        refine ⟨_, rfl, _, _, .base (.bl b), kitYes (by decide +kernel), _, rfl, iteT ?_⟩
        refine ⟨_, rfl, _, _, .base (.bl b), kitYes (by decide +kernel), _, rfl, iteT ⟨_, rfl, _, rfl, rfl, ?_⟩⟩
        rw [yes]
        exact k0
      · refine ⟨_, rfl, _, rfl, ite2 (fun z => absurd z (no (by intro q; cases q))) fun _ => ?_⟩
        refine ⟨_, rfl, _, _, .base (.int i), kitNo (by decide +kernel), _, rfl, iteF ?_⟩
        refine ⟨_, rfl, _, _, .base (.int i), kitYes (by decide +kernel), _, rfl, iteT ?_⟩
        refine ⟨_, rfl, _, _, .base (.int i), kitYes (by decide +kernel), _, rfl, iteT ⟨_, rfl, _, _, .base (.int i), kitNo (by decide +kernel), _, rfl, _, rfl, iteT ⟨_, rfl, _, rfl, rfl, ?_⟩⟩⟩
        rw [yes]
        exact k0
      · refine ⟨_, rfl, _, rfl, ite2 (fun z => absurd z (no (by intro q; cases q))) fun _ => ?_⟩
        refine ⟨_, rfl, _, _, .base (.str z), kitNo (by decide +kernel), _, rfl, iteF ?_⟩
        refine ⟨_, rfl, _, _, .base (.str z), kitNo (by decide +kernel), _, rfl, iteF ?_⟩
        refine ⟨_, rfl, _, _, .base (.str z), kitYes (by decide +kernel), _, rfl, iteT ?_⟩
        refine ⟨_, rfl, _, _, .base (.str z), kitYes (by decide +kernel), _, rfl, iteT ⟨_, rfl, _, rfl, rfl, ?_⟩⟩
        rw [yes]
        exact k0
    · refine ⟨_, rfl, _, rfl, ite2 (fun z => absurd z (no (by intro q; cases q))) fun _ => ?_⟩
      refine ⟨_, rfl, _, _, .base (.tup hq), kitNo (by decide +kernel), _, rfl, iteF ?_⟩
      refine ⟨_, rfl, _, _, .base (.tup hq), kitNo (by decide +kernel), _, rfl, iteF ?_⟩
      refine ⟨_, rfl, _, _, .base (.tup hq), kitNo (by decide +kernel), _, rfl, iteF ?_⟩
      refine ⟨_, rfl, _, _, .base (.tup hq), kitYes (by decide +kernel), _, rfl, iteT ⟨_, rfl, _, _, .base (.tup hp), kitYes (by decide +kernel), _, rfl, iteF ?_⟩⟩
      refine ⟨_, rfl, _, _, .base (.tup hq), kitNo (by decide +kernel), _, rfl, iteF (iteF ?_)⟩
      refine ⟨_, rfl, p, [], rfl, .inr (SqT.of hp), _, rfl, q, [], rfl, .inr (SqT.of hq), rfl, _, rfl, iteNS rfl ?_⟩
      refine ⟨_, rfl, q, [], rfl, .inr (SqT.of hq), _, rfl, by decide, by decide, for_range (lo := 0) (n := 0) (fun i σ H' => H' = H) rfl (fun i σ H' hi => absurd hi (by omega)) fun σ H' e => ?_⟩
      subst e
      exact k0
/-- a value that odd has made, twice: the same -/
def spSame (n : Nat) : Sp := fun vs H Q _ => ∃ (v : V), vs = [v, v] ∧ OV H (fun _ => True) n v ∧ ∀ H', Same H H' → Q (.bl true) H'
def spSameP : Nat → Sp
  | 0 => fun _ _ _ _ => False
  | n + 1 => spSame n
theorem scSame : FnScope nAl ["_law_actual", "_law_due"] (defScope sSameV) := ⟨rfl, rfl, rfl, by decide +kernel, rfl, by decide +kernel, by decide +kernel⟩
theorem same_step {n : Nat} {f fA : Addr} {fd fdA : FuncData} (F : Fun K "_law_same_value" "_law_same_value" sSameV f fd) (T : TxtI mg) (GA : FnOk P w K mg base CX0 1 fA fdA ["_law_actual", "_law_due"] (spAlike K)) (kA : PySem.W.keepIn K (.ref fA) = true)
    (bA : Binds K fdA ["_law_actual", "_law_due"] []) (mA : mg "_law_alike" = some (.ref fA)) (mS : mg "_law_same_value" = some (.ref f)) (bS : Binds K fd ["_law_actual", "_law_due"] [])
    (GP : FnOk P w K mg base CX0 (n + 1) f fd ["_law_actual", "_law_due"] (spSameP n)) : FnOk P w K mg base CX0 (n + 2) f fd ["_law_actual", "_law_due"] (spSame n) := by
  refine F.ok scSame (fun vs H Q E h => ?_) (fun cdv A outer s H vs Q E hr h => ?_)
  · obtain ⟨v, rfl, _⟩ := h
    rfl
  · obtain ⟨v, rfl, ho, k⟩ := h
    have hr1 : Room 1 _ := hr.mono (by omega)
    have hu := hu_of hr
    have no : ∀ {a b : V}, a ≠ b → ¬ decide (a = b) = true := fun h z => h (of_decide_eq_true z)
    have flat : Flat v → ∃ t, PSs (cxOf CX0 P w K mg base nAl "_law_same_value" (defScope sSameV) f cdv A outer s H E).nox (defBody sSameV) t ∧ t { nx := fun _ H' => Q .non H', rt := Q } (start nAl [v, v]) H := fun hf => by
      refine ⟨_, pss_cons (ps_if (pt_val (pe_isi (pv 1) mono_var T.isi T.dict bb_dict)) pss_never pss_nil)
        (pss_cons (ps_if (pw_or (pt_val (pe_isi (pv 1) mono_var T.isi T.tuple bb_tuple)) (pw_or1 (pt_val (pe_isi (pv 1) mono_var T.isi T.list bb_list)))).pt pss_never pss_nil)
        (pss_one (ps_ret (pe_call GA hr1 (by rfl) mA kA bA .nil pass0 (pa_cons (pv 0) (pa_cons (pv 1) pa_nil)))))), ?_⟩
      have fin : (fun vs H1 => spAlike K (vs ++ []) H1 Q E0) [v, v] H := ⟨v, v, rfl, .inl ⟨rfl, hf⟩, k⟩
      rcases hf with rfl | ⟨b, rfl⟩ | ⟨i, rfl⟩ | ⟨z, rfl⟩
      · exact ⟨_, rfl, _, _, .base .non, kitNo (by decide +kernel), _, rfl, iteF ⟨_, rfl, _, _, .base .non, kitNo (by decide +kernel), _, rfl, iteF ⟨_, rfl, _, _, .base .non, kitNo (by decide +kernel), _, rfl, iteF ⟨_, rfl, _, rfl, fin⟩⟩⟩⟩
      · exact ⟨_, rfl, _, _, .base (.bl b), kitNo (by decide +kernel), _, rfl, iteF ⟨_, rfl, _, _, .base (.bl b), kitNo (by decide +kernel), _, rfl, iteF ⟨_, rfl, _, _, .base (.bl b), kitNo (by decide +kernel), _, rfl, iteF ⟨_, rfl, _, rfl, fin⟩⟩⟩⟩
      · exact ⟨_, rfl, _, _, .base (.int i), kitNo (by decide +kernel), _, rfl, iteF ⟨_, rfl, _, _, .base (.int i), kitNo (by decide +kernel), _, rfl, iteF ⟨_, rfl, _, _, .base (.int i), kitNo (by decide +kernel), _, rfl, iteF ⟨_, rfl, _, rfl, fin⟩⟩⟩⟩
      · exact ⟨_, rfl, _, _, .base (.str z), kitNo (by decide +kernel), _, rfl, iteF ⟨_, rfl, _, _, .base (.str z), kitNo (by decide +kernel), _, rfl, iteF ⟨_, rfl, _, _, .base (.str z), kitNo (by decide +kernel), _, rfl, iteF ⟨_, rfl, _, rfl, fin⟩⟩⟩⟩
    cases n with
    | zero => exact flat ho
    | succ m =>
      rcases ho with hf | ⟨p, rfl, _, hp⟩
      · exact flat hf
      rcases hp with ⟨xs, hp, h3, hx⟩ | ⟨xs, hp, h3, hx⟩ | ⟨kvs, g, hp, h3, hx⟩
      · -- a tuple
        refine ⟨_, pss_cons (ps_if (pt_val (pe_isi (pv 1) mono_var T.isi T.dict bb_dict)) pss_never pss_nil)
          (pss_cons (ps_if (pw_or (pt_val (pe_isi (pv 1) mono_var T.isi T.tuple bb_tuple)) (pw_or1 (pt_val (pe_isi (pv 1) mono_var T.isi T.list bb_list)))).pt
            (pss_cons (ps_if (pw_or (pt_cmpR op_ne (pe_isi (pv 1) mono_var T.isi T.tuple bb_tuple) (pe_isi (pv 0) mono_var T.isi T.tuple bb_tuple) (nomark _)) (pw_or1 (pt_cmpR op_ne (pe_isi (pv 1) mono_var T.isi T.list bb_list) (pe_isi (pv 0) mono_var T.isi T.list bb_list) (nomark _)))).pt (pss_one (ps_ret pe_bl)) pss_nil)
            (pss_cons (ps_if (pt_cmpR op_ne (pe_callB call_len_seq (by rfl) T.len boot_len (pa_cons (pv 0) pa_nil)) (pe_callB call_len_seq (by rfl) T.len boot_len (pa_cons (pv 1) pa_nil)) (nomark _)) (pss_one (ps_ret pe_bl)) pss_nil)
            (pss_cons (ps_for PassesOwn.never rfl (pi_range1 (by rfl) T.range (pa_cons (pe_callB call_len_seq (by rfl) T.len boot_len (pa_cons (pv 1) pa_nil)) pa_nil)) (pg_name (i := 2) scSame.nd rfl (Or.inl rfl))
              (pss_one (ps_if (pt_not (pt_val (pe_call GP hr (by rfl) mS F.kp bS .nil pass0 (pa_cons (pe_ix ix_tup (pv 0) (pv 2) (fun _ _ => rfl)) (pa_cons (pe_ix ix_tup (pv 1) (pv 2) (fun _ _ => rfl)) pa_nil))))) (pss_one (ps_ret pe_bl)) pss_nil)))
            (pss_one (ps_ret pe_bl))))) pss_nil)
          (pss_one ps_never)), ?_⟩
        refine ⟨_, rfl, _, _, .base (.tup hp), kitNo (by decide +kernel), _, rfl, iteF ?_⟩
        refine ⟨_, rfl, _, _, .base (.tup hp), kitYes (by decide +kernel), _, rfl, iteT (iteT ?_)⟩
        refine ⟨_, rfl, _, _, .base (.tup hp), kitYes (by decide +kernel), _, rfl, _, _, .base (.tup hp), kitYes (by decide +kernel), rfl, _, rfl, iteNS rfl ?_⟩
        refine ⟨_, rfl, _, _, .base (.tup hp), kitNo (by decide +kernel), _, rfl, _, _, .base (.tup hp), kitNo (by decide +kernel), rfl, _, rfl, iteNS rfl ?_⟩
        refine ⟨_, rfl, p, xs, rfl, .inr (SqT.of hp), _, rfl, p, xs, rfl, .inr (SqT.of hp), rfl, _, rfl, iteNS rfl ?_⟩
        refine ⟨_, rfl, p, xs, rfl, .inr (SqT.of hp), _, rfl, by omega, by omega, for_range (lo := 0) (n := xs.length) (fun i σ H' => ∃ v : Option V, σ = [some (.ref p), some (.ref p), v] ∧ Same H H') ⟨_, rfl, Same.refl H⟩ ?_ ?_⟩
        · rintro i σ H' hi ⟨v, rfl, hS⟩
          have hat : atI xs (0 + (i : Int)) = some xs[i] := at_of (j := i) (by omega) (by simp [hi])
          have hp' : H' p = some (.tup xs) := hS p _ hp
          exact ⟨_, rfl, _, rfl, p, _, _, _, rfl, rfl, SqT.of hp', hat, _, rfl, _, rfl, p, _, _, _, rfl, rfl, SqT.of hp', hat, _, rfl, OV.keep (fun q o _ e => hS q o e) (fun _ z => z) (hx _ (List.getElem_mem hi)), fun H2 h2 => ⟨_, rfl, iteF ⟨_, rfl, hS.trans h2⟩⟩⟩
        · rintro σ H' ⟨v, rfl, hS⟩
          exact k H' hS
      · -- a list
        refine ⟨_, pss_cons (ps_if (pt_val (pe_isi (pv 1) mono_var T.isi T.dict bb_dict)) pss_never pss_nil)
          (pss_cons (ps_if (pw_or (pt_val (pe_isi (pv 1) mono_var T.isi T.tuple bb_tuple)) (pw_or1 (pt_val (pe_isi (pv 1) mono_var T.isi T.list bb_list)))).pt
            (pss_cons (ps_if (pw_or (pt_cmpR op_ne (pe_isi (pv 1) mono_var T.isi T.tuple bb_tuple) (pe_isi (pv 0) mono_var T.isi T.tuple bb_tuple) (nomark _)) (pw_or1 (pt_cmpR op_ne (pe_isi (pv 1) mono_var T.isi T.list bb_list) (pe_isi (pv 0) mono_var T.isi T.list bb_list) (nomark _)))).pt (pss_one (ps_ret pe_bl)) pss_nil)
            (pss_cons (ps_if (pt_cmpR op_ne (pe_callB call_len_seq (by rfl) T.len boot_len (pa_cons (pv 0) pa_nil)) (pe_callB call_len_seq (by rfl) T.len boot_len (pa_cons (pv 1) pa_nil)) (nomark _)) (pss_one (ps_ret pe_bl)) pss_nil)
            (pss_cons (ps_for PassesOwn.never rfl (pi_range1 (by rfl) T.range (pa_cons (pe_callB call_len_seq (by rfl) T.len boot_len (pa_cons (pv 1) pa_nil)) pa_nil)) (pg_name (i := 2) scSame.nd rfl (Or.inl rfl))
              (pss_one (ps_if (pt_not (pt_val (pe_call GP hr (by rfl) mS F.kp bS .nil pass0 (pa_cons (pe_ix ix_list (pv 0) (pv 2) (fun _ _ => rfl)) (pa_cons (pe_ix ix_list (pv 1) (pv 2) (fun _ _ => rfl)) pa_nil))))) (pss_one (ps_ret pe_bl)) pss_nil)))
            (pss_one (ps_ret pe_bl))))) pss_nil)
          (pss_one ps_never)), ?_⟩
        refine ⟨_, rfl, _, _, .base (.lst hp), kitNo (by decide +kernel), _, rfl, iteF ?_⟩
        refine ⟨_, rfl, _, _, .base (.lst hp), kitNo (by decide +kernel), _, rfl, iteF ⟨_, rfl, _, _, .base (.lst hp), kitYes (by decide +kernel), _, rfl, iteT ?_⟩⟩
        refine ⟨_, rfl, _, _, .base (.lst hp), kitNo (by decide +kernel), _, rfl, _, _, .base (.lst hp), kitNo (by decide +kernel), rfl, _, rfl, iteNS rfl ?_⟩
        refine ⟨_, rfl, _, _, .base (.lst hp), kitYes (by decide +kernel), _, rfl, _, _, .base (.lst hp), kitYes (by decide +kernel), rfl, _, rfl, iteNS rfl ?_⟩
        refine ⟨_, rfl, p, xs, rfl, .inl (SqL.of hp), _, rfl, p, xs, rfl, .inl (SqL.of hp), rfl, _, rfl, iteNS rfl ?_⟩
        refine ⟨_, rfl, p, xs, rfl, .inl (SqL.of hp), _, rfl, by omega, by omega, for_range (lo := 0) (n := xs.length) (fun i σ H' => ∃ v : Option V, σ = [some (.ref p), some (.ref p), v] ∧ Same H H') ⟨_, rfl, Same.refl H⟩ ?_ ?_⟩
        · rintro i σ H' hi ⟨v, rfl, hS⟩
          have hat : atI xs (0 + (i : Int)) = some xs[i] := at_of (j := i) (by omega) (by simp [hi])
          have hp' : H' p = some (.lst xs) := hS p _ hp
          exact ⟨_, rfl, _, rfl, p, _, _, _, rfl, rfl, SqL.of hp', hat, _, rfl, _, rfl, p, _, _, _, rfl, rfl, SqL.of hp', hat, _, rfl, OV.keep (fun q o _ e => hS q o e) (fun _ z => z) (hx _ (List.getElem_mem hi)), fun H2 h2 => ⟨_, rfl, iteF ⟨_, rfl, hS.trans h2⟩⟩⟩
        · rintro σ H' ⟨v, rfl, hS⟩
          exact k H' hS
      · -- a dict
        refine ⟨_, pss_cons (ps_if (pt_val (pe_isi (pv 1) mono_var T.isi T.dict bb_dict))
            (pss_cons (ps_if (pw_or (pt_not (pt_val (pe_isi (pv 0) mono_var T.isi T.dict bb_dict))) (pw_or1 (pt_cmpR op_ne (pe_callB call_lenD (by rfl) T.len boot_len (pa_cons (pv 0) pa_nil)) (pe_callB call_lenD (by rfl) T.len boot_len (pa_cons (pv 1) pa_nil)) (nomark _)))).pt (pss_one (ps_ret pe_bl)) pss_nil)
            (pss_cons (ps_for PassesOwn.never rfl (pi_range1 (by rfl) T.range (pa_cons (pe_callB call_lenD (by rfl) T.len boot_len (pa_cons (pv 1) pa_nil)) pa_nil)) (pg_name (i := 2) scSame.nd rfl (Or.inl rfl))
              (pss_one (ps_if (pw_or (pt_cmp (pc_dnotin hu (pv 2) (pv 0))) (pw_or1 (pt_not (pt_val (pe_call GP hr (by rfl) mS F.kp bS .nil pass0 (pa_cons (pe_dget hu (pv 0) (pv 2) (fun _ _ => rfl)) (pa_cons (pe_dget hu (pv 1) (pv 2) (fun _ _ => rfl)) pa_nil))))))).pt (pss_one (ps_ret pe_bl)) pss_nil)))
            (pss_one (ps_ret pe_bl)))) pss_nil) pss_never, ?_⟩
        refine ⟨_, rfl, _, _, .base (.dK hp), kitYes (by decide +kernel), _, rfl, iteT ?_⟩
        refine ⟨_, rfl, _, _, .base (.dK hp), kitYes (by decide +kernel), _, rfl, iteF ?_⟩
        refine ⟨_, rfl, p, kvs, rfl, hp, _, rfl, p, kvs, rfl, hp, rfl, _, rfl, iteNS rfl ?_⟩
        refine ⟨_, rfl, p, kvs, rfl, hp, _, rfl, by omega, by omega, for_range (lo := 0) (n := kvs.length) (fun i σ H' => ∃ v : Option V, σ = [some (.ref p), some (.ref p), v] ∧ Same H H') ⟨_, rfl, Same.refl H⟩ ?_ ?_⟩
        · rintro i σ H' hi ⟨v, rfl, hS⟩
          have e0 : (0 : Int) + (i : Int) = (i : Int) := by omega
          obtain ⟨hv, hov⟩ := hx i hi
          have hp' : H' p = some (.dK kvs) := hS p _ hp
          have dg : DGet H' p (.int (0 + (i : Int))) (some (g i)) := by
            rw [e0, ← hv]
            exact DGet.k (k := Sum.inl (i : Int)) hp'
          exact ⟨_, rfl, _, rfl, p, some (g i), rfl, dg, _, rfl, iteF ⟨_, rfl, _, rfl, p, g i, rfl, dg, _, rfl, _, rfl, p, g i, rfl, dg, g i, rfl, OV.keep (fun q o _ e => hS q o e) (fun _ z => z) hov, fun H2 h2 => ⟨_, rfl, iteF ⟨_, rfl, hS.trans h2⟩⟩⟩⟩
        · rintro σ H' ⟨v, rfl, hS⟩
          exact k H' hS
theorem ok_same {f fA : Addr} {fd fdA : FuncData} (F : Fun K "_law_same_value" "_law_same_value" sSameV f fd) (T : TxtI mg) (GA : FnOk P w K mg base CX0 1 fA fdA ["_law_actual", "_law_due"] (spAlike K)) (kA : PySem.W.keepIn K (.ref fA) = true)
    (bA : Binds K fdA ["_law_actual", "_law_due"] []) (mA : mg "_law_alike" = some (.ref fA)) (mS : mg "_law_same_value" = some (.ref f)) (bS : Binds K fd ["_law_actual", "_law_due"] []) :
    ∀ n, FnOk P w K mg base CX0 (n + 2) f fd ["_law_actual", "_law_due"] (spSame n)
  | 0 => same_step F T GA kA bA mA mS bS never_ok
  | n + 1 => same_step F T GA kA bA mA mS bS (ok_same F T GA kA bA mA mS bS n)
end
end Oh
namespace Oh
open PySem PySem.Spec PyProof.Rows L2
/-- the names of the error classes, in the order of the flags -/
def eN : Nat → Str
  | 0 => "BadRoutine"
  | 1 => "NoPath"
  | 2 => "NoStand"
  | 3 => "NoPick"
  | 4 => "NoTell"
  | 5 => "NoPort"
  | 6 => "NoDigit"
  | 7 => "BadRoutines"
  | 8 => "BadOwn"
  | 9 => "BadOver"
  | 10 => "NoWorld"
  | 11 => "NoMove"
  | 12 => "BadRun"
  | 13 => "BadRow"
  | 14 => "NoRow"
  | 15 => "BadFact"
  | 16 => "BadAim"
  | 17 => "BadPlan"
  | 18 => "Overheard"
  | 19 => "BadPicks"
  | 20 => "BadNames"
  | 21 => "BadText"
  | 22 => "TooMany"
  | _ => ""
structure TxtE (K : PySem.W.Frag) (mg : Str → Option Value) (f1 : Addr) (cs : Nat → Addr) : Prop where
  isi : mg "isinstance" = none
  nm : ∀ k, k < 23 → mg (eN k) = some (.ref (cs k))
  ec : ∀ k, k < 23 → ErrC K f1 (cs k)
  t1 : PySem.W.typeIn K (.ref f1) = some (.type "function")
theorem small9 {n : Nat} (h : n ≤ 1000) : n ≤ sizeLine := Nat.le_of_lt (small1000 h)
theorem Kits.len {K : PySem.W.Frag} {D : Addr} : ∀ {Cs : List Addr} {bs : List Bool}, Kits K D Cs bs → bs.length = Cs.length
  | _, _, .nil => rfl
  | _, _, .cons _ t => congrArg Nat.succ (Kits.len t)
section
variable {K : PySem.W.Frag} {σ : L2.St} {H : Hp} {Q : VK} {a D p : Addr} {acc : List V} {bs : List Bool} {Cs : List Addr}
theorem new_fl (hE : IsE H a D) (hc : ExcC K D) (kk : Kits K D Cs bs) (k : ∀ q H', Same H H' → H q = none → H' q = some (.lst (bs.map V.bl)) → Q (.ref q) H') (sz : bs.length ≤ 1000 := by simp) (h0 : σ[0]? = some (some (.ref a)) := by rfl) : tLst (tFl K 0 Cs) σ H Q :=
  ⟨a, D, bs, h0, hE, hc, kk, small9 (by rw [List.length_map]; exact sz), fun q nq => k q _ (Oh.Same.new nq) nq upd_same⟩
theorem cat_fl (hp : H p = some (.lst acc)) (hE : IsE H a D) (hc : ExcC K D) (kk : Kits K D Cs bs)
    (k : ∀ q H', Same H H' → H q = none → H' q = some (.lst (acc ++ bs.map V.bl)) → Q (.ref q) H') (sz : acc.length + bs.length ≤ 1000 := by simp) (h1 : σ[1]? = some (some (.ref p)) := by rfl) (h0 : σ[0]? = some (some (.ref a)) := by rfl) : tOp rCat (tVar 1) (tLst (tFl K 0 Cs)) σ H Q := by
  refine ⟨_, h1, a, D, bs, h0, hE, hc, kk, small9 (by rw [List.length_map]; omega), fun q nq => ⟨p, q, acc, bs.map V.bl, rfl, rfl, by rw [upd_ne (ne_of_none hp nq)]; exact hp, upd_same, small9 (by rw [List.length_map]; omega), fun r nr => ?_⟩⟩
  exact k r _ ((Oh.Same.new nq).trans (Oh.Same.new nr)) ((Oh.Same.new nq).free nr) upd_same
end
section
variable {g : L2.St → V → Prop} {σ : L2.St} {H : Hp} {Q : VK} {v : V} {p : Addr} {as Cs Ds : List Addr}
theorem errs_len : ∀ {H : Hp} {v : V} {as Cs : List Addr}, Errs H v as Cs → as.length = Cs.length
  | _, _, _, _, .nil => rfl
  | _, _, _, _, .cons _ t => congrArg Nat.succ (errs_len t)
theorem new_err (gv : g σ v) (k : ∀ q as H', Same H H' → H q = none → H' q = some (.lst (as.map V.ref)) → Errs H' v as Cs → Q (.ref q) H') (sz : Cs.length ≤ 1000 := by simp) : tLst (tErrs g Cs) σ H Q :=
  ⟨v, gv, fun as H1 s1 e1 => ⟨small9 (by rw [List.length_map, errs_len e1]; exact sz), fun q nq => k q as _ (s1.trans (Oh.Same.new nq)) (s1.free nq) upd_same (Errs.keep (Oh.Same.new nq) e1)⟩⟩
theorem cat_err {i : Nat} (hp : H p = some (.lst (as.map V.ref))) (he : Errs H v as Ds) (gv : g σ v)
    (k : ∀ q bs H', Same H H' → H q = none → H' q = some (.lst (bs.map V.ref)) → Errs H' v bs (Ds ++ Cs) → Q (.ref q) H') (sz : Ds.length + Cs.length ≤ 1000 := by simp) (h1 : σ[i]? = some (some (.ref p)) := by rfl) : tOp rCat (tVar i) (tLst (tErrs g Cs)) σ H Q := by
  refine ⟨_, h1, v, gv, fun bs H1 s1 e1 => ⟨small9 (by rw [List.length_map, errs_len e1]; omega), fun q nq => ⟨p, q, as.map V.ref, bs.map V.ref, rfl, rfl, by rw [upd_ne (ne_of_none (s1 _ _ hp) nq)]; exact s1 _ _ hp, upd_same, small9 (by rw [List.length_map, List.length_map, errs_len e1, errs_len he]; omega), fun r nr => ?_⟩⟩⟩
  have s2 : Same H1 _ := (Oh.Same.new (o := .lst (bs.map V.ref)) nq).trans (Oh.Same.new (o := .lst (as.map V.ref ++ bs.map V.ref)) nr)
  exact k r (as ++ bs) _ (s1.trans s2) (s1.free ((Oh.Same.new nq).free nr)) (by rw [upd_same, List.map_append]) (Errs.append (he.keep (s1.trans s2)) (e1.keep s2))
end
section
variable {P : Program} {w : World} {K : PySem.W.Frag} {mg : Str → Option Value} {base : Heap} {f1 : Addr} {cs : Nat → Addr}
def spF1 (K : PySem.W.Frag) (cs : Nat → Addr) (n : Nat) : Sp := fun vs H Q _ => ∃ (a D : Addr) (b : Nat → Bool), vs = [.ref a] ∧ IsE H a D ∧ ExcC K D ∧ (∀ k, k < 23 → PySem.W.kitOne K (.ref D) (.ref (cs k)) = some (b k)) ∧
  ∀ p H', Same H H' → H p = none → H' p = some (.lst ((List.range n).map fun k => V.bl (b k))) → Q (.ref p) H'
abbrev nFl : List Str := ["_law_error", "_law_found"]
theorem scF1 : FnScope nFl ["_law_error"] (defScope sFlags1) := ⟨rfl, rfl, rfl, by decide +kernel, rfl, by decide +kernel, by decide +kernel⟩
theorem scF : FnScope nFl ["_law_error"] (defScope sFlags) := ⟨rfl, rfl, rfl, by decide +kernel, rfl, by decide +kernel, by decide +kernel⟩
theorem ok_f1 {f : Addr} {fd : FuncData} (F : Fun K "_law_first_flags" "_law_first_flags" sFlags1 f fd) (T : TxtE K mg f1 cs) : FnOk P w K mg base CX0 1 f fd ["_law_error"] (spF1 K cs 12) := by
  refine F.ok scF1 (fun vs H Q E h => ?_) (fun cdv A outer s H vs Q E hr h => ?_)
  · obtain ⟨a, D, b, rfl, _⟩ := h
    rfl
  · obtain ⟨a, D, b, rfl, hE, hc, kt, k⟩ := h
    refine ⟨_, pss_cons (ps_set (i := 1) scF1.nd rfl (Or.inl rfl) (pe_lst (pa_fl (C := cs 0) (pe_isc (pv 0) mono_var T.isi (T.nm 0 (by decide))) (pa_fl (C := cs 1) (pe_isc (pv 0) mono_var T.isi (T.nm 1 (by decide))) (pa_fl (C := cs 2) (pe_isc (pv 0) mono_var T.isi (T.nm 2 (by decide))) (pa_fl0 K 0))))))
      (pss_cons (ps_set (i := 1) scF1.nd rfl (Or.inl rfl) (pe_op op_cat (pv 1) (pe_lst (pa_fl (C := cs 3) (pe_isc (pv 0) mono_var T.isi (T.nm 3 (by decide))) (pa_fl (C := cs 4) (pe_isc (pv 0) mono_var T.isi (T.nm 4 (by decide))) (pa_fl (C := cs 5) (pe_isc (pv 0) mono_var T.isi (T.nm 5 (by decide))) (pa_fl0 K 0)))))))
      (pss_cons (ps_set (i := 1) scF1.nd rfl (Or.inl rfl) (pe_op op_cat (pv 1) (pe_lst (pa_fl (C := cs 6) (pe_isc (pv 0) mono_var T.isi (T.nm 6 (by decide))) (pa_fl (C := cs 7) (pe_isc (pv 0) mono_var T.isi (T.nm 7 (by decide))) (pa_fl (C := cs 8) (pe_isc (pv 0) mono_var T.isi (T.nm 8 (by decide))) (pa_fl0 K 0)))))))
      (pss_one (ps_ret (pe_op op_cat (pv 1) (pe_lst (pa_fl (C := cs 9) (pe_isc (pv 0) mono_var T.isi (T.nm 9 (by decide))) (pa_fl (C := cs 10) (pe_isc (pv 0) mono_var T.isi (T.nm 10 (by decide))) (pa_fl (C := cs 11) (pe_isc (pv 0) mono_var T.isi (T.nm 11 (by decide))) (pa_fl0 K 0)))))))))), ?_⟩
    dsimp only [tSeq, tAsg]
    refine new_fl hE hc (.cons (kt 0 (by decide)) (.cons (kt 1 (by decide)) (.cons (kt 2 (by decide)) .nil))) fun p1 H1 s1 n1 l1 => ?_
    refine cat_fl l1 (hE.keep s1) hc (.cons (kt 3 (by decide)) (.cons (kt 4 (by decide)) (.cons (kt 5 (by decide)) .nil))) fun p2 H2 s2 n2 l2 => ?_
    refine cat_fl l2 (hE.keep (s1.trans s2)) hc (.cons (kt 6 (by decide)) (.cons (kt 7 (by decide)) (.cons (kt 8 (by decide)) .nil))) fun p3 H3 s3 n3 l3 => ?_
    refine cat_fl l3 (hE.keep (s1.trans (s2.trans s3))) hc (.cons (kt 9 (by decide)) (.cons (kt 10 (by decide)) (.cons (kt 11 (by decide)) .nil))) fun p4 H4 s4 n4 l4 => ?_
    exact k p4 H4 (s1.trans (s2.trans (s3.trans s4))) (s1.free (s2.free (s3.free n4))) l4
theorem ok_f {f fA : Addr} {fd fdA : FuncData} (F : Fun K "_law_flags" "_law_flags" sFlags f fd) (T : TxtE K mg f1 cs) (FA : Fun K "_law_first_flags" "_law_first_flags" sFlags1 fA fdA) (bA : Binds K fdA ["_law_error"] []) (mA : mg "_law_first_flags" = some (.ref fA)) :
    FnOk P w K mg base CX0 2 f fd ["_law_error"] (spF1 K cs 23) := by
  have G : FnOk P w K mg base CX0 1 fA fdA ["_law_error"] (spF1 K cs 12) := ok_f1 FA T
  refine F.ok scF (fun vs H Q E h => ?_) (fun cdv A outer s H vs Q E hr h => ?_)
  · obtain ⟨a, D, b, rfl, _⟩ := h
    rfl
  · obtain ⟨a, D, b, rfl, hE, hc, kt, k⟩ := h
    refine ⟨_, pss_cons (ps_set (i := 1) scF.nd rfl (Or.inl rfl) (pe_call G hr (by rfl) mA FA.kp bA .nil pass0 (pa_cons (pv 0) pa_nil)))
      (pss_cons (ps_set (i := 1) scF.nd rfl (Or.inl rfl) (pe_op op_cat (pv 1) (pe_lst (pa_fl (C := cs 12) (pe_isc (pv 0) mono_var T.isi (T.nm 12 (by decide))) (pa_fl (C := cs 13) (pe_isc (pv 0) mono_var T.isi (T.nm 13 (by decide))) (pa_fl (C := cs 14) (pe_isc (pv 0) mono_var T.isi (T.nm 14 (by decide))) (pa_fl0 K 0)))))))
      (pss_cons (ps_set (i := 1) scF.nd rfl (Or.inl rfl) (pe_op op_cat (pv 1) (pe_lst (pa_fl (C := cs 15) (pe_isc (pv 0) mono_var T.isi (T.nm 15 (by decide))) (pa_fl (C := cs 16) (pe_isc (pv 0) mono_var T.isi (T.nm 16 (by decide))) (pa_fl (C := cs 17) (pe_isc (pv 0) mono_var T.isi (T.nm 17 (by decide))) (pa_fl0 K 0)))))))
      (pss_cons (ps_set (i := 1) scF.nd rfl (Or.inl rfl) (pe_op op_cat (pv 1) (pe_lst (pa_fl (C := cs 18) (pe_isc (pv 0) mono_var T.isi (T.nm 18 (by decide))) (pa_fl (C := cs 19) (pe_isc (pv 0) mono_var T.isi (T.nm 19 (by decide))) (pa_fl (C := cs 20) (pe_isc (pv 0) mono_var T.isi (T.nm 20 (by decide))) (pa_fl0 K 0)))))))
      (pss_one (ps_ret (pe_op op_cat (pv 1) (pe_lst (pa_fl (C := cs 21) (pe_isc (pv 0) mono_var T.isi (T.nm 21 (by decide))) (pa_fl (C := cs 22) (pe_isc (pv 0) mono_var T.isi (T.nm 22 (by decide))) (pa_fl0 K 0)))))))))), ?_⟩
    refine ⟨_, rfl, a, D, b, rfl, hE, hc, kt, fun p0 H0 s0 n0 l0 => ?_⟩
    refine cat_fl l0 (hE.keep s0) hc (.cons (kt 12 (by decide)) (.cons (kt 13 (by decide)) (.cons (kt 14 (by decide)) .nil))) fun p1 H1 s1 n1 l1 => ?_
    refine cat_fl l1 (hE.keep (s0.trans s1)) hc (.cons (kt 15 (by decide)) (.cons (kt 16 (by decide)) (.cons (kt 17 (by decide)) .nil))) fun p2 H2 s2 n2 l2 => ?_
    refine cat_fl l2 (hE.keep (s0.trans (s1.trans s2))) hc (.cons (kt 18 (by decide)) (.cons (kt 19 (by decide)) (.cons (kt 20 (by decide)) .nil))) fun p3 H3 s3 n3 l3 => ?_
    refine cat_fl l3 (hE.keep (s0.trans (s1.trans (s2.trans s3)))) hc (.cons (kt 21 (by decide)) (.cons (kt 22 (by decide)) .nil)) fun p4 H4 s4 n4 l4 => ?_
    exact k p4 H4 (s0.trans (s1.trans (s2.trans (s3.trans s4)))) (s0.free (s1.free (s2.free (s3.free n4)))) l4
end
end Oh
namespace Oh
open PySem PySem.Spec PyProof.Rows L2
section
variable {X : Cx} {e : Expr} {g : L2.St → V → Prop} {C f1 : Addr} {x n : Str} {k : Nat} {fd : FuncData} {ps : List Str} {p kpos pos : Pos} {gg : List Value → List Value → List Value} {te : TE}
theorem run_mkk {pins : List (Addr × Obj)} {σ : L2.St} {H : Hp} {s : Shared} {Q : VK} {wv : Value} {v : V} (T : ErrC X.K f1 C) (tI : PySem.W.typeIn X.K (.ref f1) = some (.type "function")) (F1 : FnOk X.prog X.w X.K X.mg X.base CX0 k f1 fd ps (spEInit X.K f1)) (hr : Room (k + 1) X.A)
    (hb : KBn X.K fd ps 1 [n] gg (fun vs zs => vs ++ zs)) (I1 : Inv X pins σ H s) (rz : RelV v wv) (q : ∀ a H', H a = none → Same H H' → ErrAt H' a C v → Q (.ref a) H') : wpAny (model X.prog X.w) X.A (call (.ref C) [] [(n, wv)]) (EP X pins σ Q) X.xe s := by
  obtain ⟨nm, qn, N, bs, bm, sn, sub, ab, col, dd, k0, k1, k2, k3, k5, hC, hbm⟩ := T.ox.cls
  obtain ⟨hp, gs, dr, tk, os⟩ := s
  have le : hp.objs.size ≤ hp.objs.size + 1 := Nat.le_succ _
  have na : H (hp.objs.size + 1) = none := I1.hok.fresh le
  have kept : ∀ b o, hp.get? b = some o → ((hp.push (PySem.W.kdv_tup [])).push (PySem.HandSPX.excO C hp.objs.size)).get? b = some o := fun b o z => Heap.get?_push_of_some _ (Heap.get?_push_of_some _ z)
  have new : ((hp.push (PySem.W.kdv_tup [])).push (PySem.HandSPX.excO C hp.objs.size)).get? (hp.objs.size + 1) = some (PySem.HandSPX.excO C hp.objs.size) := by heap_get
  have I2 : Inv X pins σ (upd H (hp.objs.size + 1) (exo (hp.objs.size + 1) C none)) ⟨(hp.push (PySem.W.kdv_tup [])).push (PySem.HandSPX.excO C hp.objs.size), gs, dr, tk, os⟩ :=
    I1.laid (t' := tk) (a := hp.objs.size + 1) (o := exo (hp.objs.size + 1) C none) (h' := (hp.push (PySem.W.kdv_tup [])).push (PySem.HandSPX.excO C hp.objs.size)) kept le (exo_ok new)
  have r1 : Vals [V.ref (hp.objs.size + 1)] [Value.ref (hp.objs.size + 1)] := .cons rfl .nil
  have r2 : Vals [v] [wv] := .cons rz .nil
  have hq : spEInit X.K f1 ([V.ref (hp.objs.size + 1)] ++ [v]) (upd H (hp.objs.size + 1) (exo (hp.objs.size + 1) C none)) (fun v H2 => v = .non ∧ Q (.ref (hp.objs.size + 1)) H2) (fun _ _ _ => False) :=
    ⟨_, C, v, rfl, T, upd_same, fun H' hk e1 => ⟨rfl, q _ H' na (err_of na hk) e1⟩⟩
  refine wpAny_call (EV.kwCall F.excBase_ValueError (fun Y => PySem.HandSPX.refsVE_contains Y bm hbm) (I1.kIn _ _ hC) (PySem.W.looks_findIn I1.kIn T.ini) (fun self => PySem.W.bind_fn I1.kIn self tI)
    (codeAny_mono (F1.run _ X.stack _ _ ⟨[Value.ref (hp.objs.size + 1)], [(n, wv)]⟩ (gg [Value.ref (hp.objs.size + 1)] [wv]) _ _ (fun _ _ _ => False) (hr.make C [] [(n, wv)]) (I2.env0.make C [] [(n, wv)]) (hb.to _ [Value.ref (hp.objs.size + 1)] [wv] I2.kIn rfl rfl) (hb.rel r1 r2) hq) fun r s' hq' => ?_))
  cases r with
  | error er => exact hq'.elim
  | ok fl =>
    cases fl with
    | ret u =>
      obtain ⟨v, H', I3, rv, ev, q3⟩ := I2.after hq'
      subst ev
      exact ⟨rv, ⟨V.ref (hp.objs.size + 1), H', I3, rfl, q3⟩⟩
    | next => exact False.elim hq'
    | brk => exact False.elim hq'
    | cont => exact False.elim hq'
/-- C(n = e) -/
theorem pe_errK (T : ErrC X.K f1 C) (tI : PySem.W.typeIn X.K (.ref f1) = some (.type "function")) (F1 : FnOk X.prog X.w X.K X.mg X.base CX0 k f1 fd ps (spEInit X.K f1)) (hr : Room (k + 1) X.A) (hb : KBn X.K fd ps 1 [n] gg (fun vs zs => vs ++ zs)) (hm : X.mg x = some (.ref C)) (he : PE X e te)
    (hte : ∀ σ H Q, (∃ v, g σ v ∧ Q v H) → te σ H Q) (hg : Gl X x := by rfl) (hall : (backToKw pos (keywordEach [⟨some n, e, kpos⟩] X.env)).all (·.1.isSome) = true := by rfl) (hks : (backToKw pos (keywordEach [⟨some n, e, kpos⟩] X.env)).filterMap (·.1) = [n] := by rfl) (hdb : (x == ("__debug__" : Str)) = false := by decide)
    (hpl : ((backTo pos (starEach [] X.env)).any (·.1) || (backToKw pos (keywordEach [⟨some n, e, kpos⟩] X.env)).any (·.1.isNone)) = false := by rfl) : PE X (.Call (.Name x p) [] [⟨some n, e, kpos⟩] pos) (tErr g C) := by
  refine ⟨fun pins s σ H Q I h => ?_⟩
  refine wpAny_Call_Name_kw (ld_glob I hg hm ?_ hdb)
  refine PySem.W.callWith_KW0 (h₀ := X.base) I.ok.mod.kin T.ox.kC hall ?_ hpl
  have kk : PK X [⟨some n, e, kpos⟩] (tCons te tNil) := pk_cons he pk_nil
  obtain ⟨v, gv, q⟩ := h
  refine thn (kk.run pos pins s σ H (fun vs H1 => vs = [v] ∧ H1 = H) I (hte σ H _ ⟨v, gv, rfl, rfl⟩)) fun ws s2 ⟨zs, H2, I2, rz, ev, eH⟩ => ⟨I2.kIn, ?_⟩
  subst ev eH
  rw [hks]
  cases rz with
  | cons r1 rn =>
    cases rn
    exact run_mkk T tI F1 hr hb I2 r1 q
end
abbrev sEInit : Stmt := inClass (top 2) 0
theorem scEInit : FnScope ["self", "what"] ["self", "what"] (defScope sEInit) := ⟨rfl, rfl, rfl, by decide +kernel, rfl, by decide +kernel, by decide +kernel⟩
section
variable {P : Program} {w : World} {K : PySem.W.Frag} {mg : Str → Option Value} {base : Heap} {f1 : Addr} {cs : Nat → Addr}
abbrev EInit (K : PySem.W.Frag) (f : Addr) (fd : FuncData) : Prop := FunD K "__init__" "HeardError.__init__" (defArgs sEInit) (defBody sEInit) (defScope sEInit) [V.non] [] f fd
theorem ok_einit {fd : FuncData} (F : EInit K f1 fd) : FnOk P w K mg base CX0 1 f1 fd ["self", "what"] (spEInit K f1) := by
  refine F.ok scEInit (fun vs H Q E h => ?_) (fun cdv A outer s H vs Q E hr h => ?_)
  · obtain ⟨a, C, v, rfl, _⟩ := h
    rfl
  · obtain ⟨a, C, v, rfl, T, ha, k⟩ := h
    refine ⟨_, pss_one (ps_ost (pv 0) (pv 1)), ?_⟩
    refine ⟨_, rfl, _, rfl, a, C, rfl, T.ox, T.no, .inl ⟨ha, fun dx nd ne => ?_⟩⟩
    exact k _ (fun b o e nb => by rw [upd_ne nb, upd_ne (ne_of_none e nd)]; exact e) ⟨dx, upd_same, by rw [upd_ne ne]; exact upd_same⟩
theorem b_einit2 {fd : FuncData} (F : EInit K f1 fd) : Binds K fd ["self", "what"] [] := by
  obtain ⟨ds, r, b⟩ := F.binds1 (ps := ["self", "what"]) 2 1 (by decide) rfl fun T kV doc pm an cdv ct us its h1 h2 => match us, its, h1, h2 with | [_, _], [_], _, _ => ⟨_, rfl, rfl⟩
  cases r
  exact b
theorem b_einit1 {fd : FuncData} (F : EInit K f1 fd) : ∃ ds, Vals [V.non] ds ∧ Binds K fd ["self", "what"] ds :=
  F.binds1 (ps := ["self", "what"]) 1 0 (by decide) rfl fun T kV doc pm an cdv ct us its h1 h2 => match us, its, h1, h2 with | [_], [_], _, _ => ⟨_, rfl, rfl⟩
theorem b_einitK {fd : FuncData} (F : EInit K f1 fd) : ∃ gg, KBn K fd ["self", "what"] 1 ["what"] gg (fun vs zs => vs ++ zs) := by
  obtain ⟨its, b⟩ := F.kbindsD (ps := ["self", "what"]) 1 ["what"] (fun us _ ws => us ++ ws) (by decide) (fun r1 _ r3 => r1.append r3) fun T kV doc pm an cdv ct us its ws h1 h2 h3 => match us, its, ws, h1, h2, h3 with | [_], [_], [_], _, _, _ => ⟨_, rfl, rfl⟩
  exact ⟨_, b⟩
end
end Oh
namespace Oh
open PySem PySem.Spec PyProof.Rows L2
theorem free1 {H H1 : Hp} {p : Addr} (s : Same H H1) (h : H1 p = none) : H p = none := s.free h
section
variable {P : Program} {w : World} {K : PySem.W.Frag} {mg : Str → Option Value} {base : Heap} {f1 : Addr} {cs : Nat → Addr}
/-- a new list of one error of each class, of the value v -/
def spErrs (n : Nat) (cs : Nat → Addr) : Sp := fun vs H Q _ => ∃ v : V, (n = 0 → vs = [] ∧ v = .non) ∧ (n = 1 → vs = [v]) ∧ n ≤ 1 ∧ ∀ p as H', Same H H' → H p = none → H' p = some (.lst (as.map V.ref)) → Errs H' v as ((List.range 23).map cs) → Q (.ref p) H'
theorem dg1 : Det fun σ v => ∃ u, σ[0]? = some (some u) ∧ u = v := fun σ v v' ⟨u, e, z⟩ ⟨u', e', z'⟩ => by
  rw [e] at e'
  cases e'
  rw [← z, ← z']
theorem sc_bare : FnScope ["_law_found"] ([] : List Str) (defScope sBare) := ⟨rfl, rfl, rfl, by decide +kernel, rfl, by decide +kernel, by decide +kernel⟩
theorem ok_bare {f : Addr} {fd fd1 : FuncData} (F : Fun K "_law_bare" "_law_bare" sBare f fd) (T : TxtE K mg f1 cs) (F1 : EInit K f1 fd1) : FnOk P w K mg base CX0 3 f fd ([] : List Str) (spErrs 0 cs) := by
  have G : FnOk P w K mg base CX0 1 f1 fd1 ["self", "what"] (spEInit K f1) := ok_einit F1
  obtain ⟨ds, v1, b1⟩ := b_einit1 F1
  have dg : Det fun (_ : L2.St) (v : V) => v = .non := fun _ _ _ a b => a.trans b.symm
  refine F.ok sc_bare (fun vs H Q E h => ?_) (fun cdv A outer s H vs Q E hr h => ?_)
  · obtain ⟨v, h0, _⟩ := h
    rw [(h0 rfl).1]
    rfl
  · obtain ⟨v, h0, _, _, k⟩ := h
    obtain ⟨rfl, rfl⟩ := h0 rfl
    refine ⟨_, pss_cons (ps_set (i := 0) sc_bare.nd rfl (Or.inl rfl) (pe_lst (pa_errs dg (pe_err0 (T.ec 0 (by decide)) T.t1 G hr b1 v1 (T.nm 0 (by decide))) (pa_errs dg (pe_err0 (T.ec 1 (by decide)) T.t1 G hr b1 v1 (T.nm 1 (by decide))) (pa_errs dg (pe_err0 (T.ec 2 (by decide)) T.t1 G hr b1 v1 (T.nm 2 (by decide))) (pa_errs dg (pe_err0 (T.ec 3 (by decide)) T.t1 G hr b1 v1 (T.nm 3 (by decide))) (pa_errs dg (pe_err0 (T.ec 4 (by decide)) T.t1 G hr b1 v1 (T.nm 4 (by decide))) (pa_errs dg (pe_err0 (T.ec 5 (by decide)) T.t1 G hr b1 v1 (T.nm 5 (by decide))) (pa_errs dg (pe_err0 (T.ec 6 (by decide)) T.t1 G hr b1 v1 (T.nm 6 (by decide))) (pa_errs dg (pe_err0 (T.ec 7 (by decide)) T.t1 G hr b1 v1 (T.nm 7 (by decide))) (pa_errs dg (pe_err0 (T.ec 8 (by decide)) T.t1 G hr b1 v1 (T.nm 8 (by decide))) (pa_errs0 _))))))))))))
      (pss_cons (ps_set (i := 0) sc_bare.nd rfl (Or.inl rfl) (pe_op op_cat (pv 0) (pe_lst (pa_errs dg (pe_err0 (T.ec 9 (by decide)) T.t1 G hr b1 v1 (T.nm 9 (by decide))) (pa_errs dg (pe_err0 (T.ec 10 (by decide)) T.t1 G hr b1 v1 (T.nm 10 (by decide))) (pa_errs dg (pe_err0 (T.ec 11 (by decide)) T.t1 G hr b1 v1 (T.nm 11 (by decide))) (pa_errs dg (pe_err0 (T.ec 12 (by decide)) T.t1 G hr b1 v1 (T.nm 12 (by decide))) (pa_errs dg (pe_err0 (T.ec 13 (by decide)) T.t1 G hr b1 v1 (T.nm 13 (by decide))) (pa_errs dg (pe_err0 (T.ec 14 (by decide)) T.t1 G hr b1 v1 (T.nm 14 (by decide))) (pa_errs dg (pe_err0 (T.ec 15 (by decide)) T.t1 G hr b1 v1 (T.nm 15 (by decide))) (pa_errs dg (pe_err0 (T.ec 16 (by decide)) T.t1 G hr b1 v1 (T.nm 16 (by decide))) (pa_errs dg (pe_err0 (T.ec 17 (by decide)) T.t1 G hr b1 v1 (T.nm 17 (by decide))) (pa_errs0 _)))))))))))))
      (pss_one (ps_ret (pe_op op_cat (pv 0) (pe_lst (pa_errs dg (pe_err0 (T.ec 18 (by decide)) T.t1 G hr b1 v1 (T.nm 18 (by decide))) (pa_errs dg (pe_err0 (T.ec 19 (by decide)) T.t1 G hr b1 v1 (T.nm 19 (by decide))) (pa_errs dg (pe_err0 (T.ec 20 (by decide)) T.t1 G hr b1 v1 (T.nm 20 (by decide))) (pa_errs dg (pe_err0 (T.ec 21 (by decide)) T.t1 G hr b1 v1 (T.nm 21 (by decide))) (pa_errs dg (pe_err0 (T.ec 22 (by decide)) T.t1 G hr b1 v1 (T.nm 22 (by decide))) (pa_errs0 _))))))))))), ?_⟩
    dsimp only [tSeq, tAsg]
    refine new_err rfl fun p1 as1 H1 s1 n1 l1 e1 => ?_
    refine cat_err l1 e1 rfl fun p2 as2 H2 s2 n2 l2 e2 => ?_
    refine cat_err l2 e2 rfl fun p3 as3 H3 s3 n3 l3 e3 => ?_
    exact k p3 as3 H3 (s1.trans (s2.trans (s3))) (s1.free (s2.free (n3))) l3 e3
theorem sc_placed : FnScope ["_law_value", "_law_found"] ["_law_value"] (defScope sPlaced) := ⟨rfl, rfl, rfl, by decide +kernel, rfl, by decide +kernel, by decide +kernel⟩
theorem ok_placed {f : Addr} {fd fd1 : FuncData} (F : Fun K "_law_placed" "_law_placed" sPlaced f fd) (T : TxtE K mg f1 cs) (F1 : EInit K f1 fd1) : FnOk P w K mg base CX0 3 f fd ["_law_value"] (spErrs 1 cs) := by
  have G : FnOk P w K mg base CX0 1 f1 fd1 ["self", "what"] (spEInit K f1) := ok_einit F1
  have b2 := b_einit2 F1
  have dg : Det fun (σ : L2.St) (v : V) => σ[0]? = some (some v) := fun _ _ _ a b => Option.some.inj (Option.some.inj (a.symm.trans b))
  refine F.ok sc_placed (fun vs H Q E h => ?_) (fun cdv A outer s H vs Q E hr h => ?_)
  · obtain ⟨v, _, h1, _⟩ := h
    rw [h1 rfl]
    rfl
  · obtain ⟨v, _, h1, _, k⟩ := h
    obtain rfl := h1 rfl
    refine ⟨_, pss_cons (ps_set (i := 1) sc_placed.nd rfl (Or.inl rfl) (pe_lst (pa_errs dg (pe_err1 (T.ec 0 (by decide)) T.t1 G hr b2 (T.nm 0 (by decide)) (pv 0) (fun _ _ _ q => q)) (pa_errs dg (pe_err1 (T.ec 1 (by decide)) T.t1 G hr b2 (T.nm 1 (by decide)) (pv 0) (fun _ _ _ q => q)) (pa_errs dg (pe_err1 (T.ec 2 (by decide)) T.t1 G hr b2 (T.nm 2 (by decide)) (pv 0) (fun _ _ _ q => q)) (pa_errs dg (pe_err1 (T.ec 3 (by decide)) T.t1 G hr b2 (T.nm 3 (by decide)) (pv 0) (fun _ _ _ q => q)) (pa_errs dg (pe_err1 (T.ec 4 (by decide)) T.t1 G hr b2 (T.nm 4 (by decide)) (pv 0) (fun _ _ _ q => q)) (pa_errs dg (pe_err1 (T.ec 5 (by decide)) T.t1 G hr b2 (T.nm 5 (by decide)) (pv 0) (fun _ _ _ q => q)) (pa_errs0 _)))))))))
      (pss_cons (ps_set (i := 1) sc_placed.nd rfl (Or.inl rfl) (pe_op op_cat (pv 1) (pe_lst (pa_errs dg (pe_err1 (T.ec 6 (by decide)) T.t1 G hr b2 (T.nm 6 (by decide)) (pv 0) (fun _ _ _ q => q)) (pa_errs dg (pe_err1 (T.ec 7 (by decide)) T.t1 G hr b2 (T.nm 7 (by decide)) (pv 0) (fun _ _ _ q => q)) (pa_errs dg (pe_err1 (T.ec 8 (by decide)) T.t1 G hr b2 (T.nm 8 (by decide)) (pv 0) (fun _ _ _ q => q)) (pa_errs dg (pe_err1 (T.ec 9 (by decide)) T.t1 G hr b2 (T.nm 9 (by decide)) (pv 0) (fun _ _ _ q => q)) (pa_errs dg (pe_err1 (T.ec 10 (by decide)) T.t1 G hr b2 (T.nm 10 (by decide)) (pv 0) (fun _ _ _ q => q)) (pa_errs dg (pe_err1 (T.ec 11 (by decide)) T.t1 G hr b2 (T.nm 11 (by decide)) (pv 0) (fun _ _ _ q => q)) (pa_errs0 _))))))))))
      (pss_cons (ps_set (i := 1) sc_placed.nd rfl (Or.inl rfl) (pe_op op_cat (pv 1) (pe_lst (pa_errs dg (pe_err1 (T.ec 12 (by decide)) T.t1 G hr b2 (T.nm 12 (by decide)) (pv 0) (fun _ _ _ q => q)) (pa_errs dg (pe_err1 (T.ec 13 (by decide)) T.t1 G hr b2 (T.nm 13 (by decide)) (pv 0) (fun _ _ _ q => q)) (pa_errs dg (pe_err1 (T.ec 14 (by decide)) T.t1 G hr b2 (T.nm 14 (by decide)) (pv 0) (fun _ _ _ q => q)) (pa_errs dg (pe_err1 (T.ec 15 (by decide)) T.t1 G hr b2 (T.nm 15 (by decide)) (pv 0) (fun _ _ _ q => q)) (pa_errs dg (pe_err1 (T.ec 16 (by decide)) T.t1 G hr b2 (T.nm 16 (by decide)) (pv 0) (fun _ _ _ q => q)) (pa_errs dg (pe_err1 (T.ec 17 (by decide)) T.t1 G hr b2 (T.nm 17 (by decide)) (pv 0) (fun _ _ _ q => q)) (pa_errs0 _))))))))))
      (pss_one (ps_ret (pe_op op_cat (pv 1) (pe_lst (pa_errs dg (pe_err1 (T.ec 18 (by decide)) T.t1 G hr b2 (T.nm 18 (by decide)) (pv 0) (fun _ _ _ q => q)) (pa_errs dg (pe_err1 (T.ec 19 (by decide)) T.t1 G hr b2 (T.nm 19 (by decide)) (pv 0) (fun _ _ _ q => q)) (pa_errs dg (pe_err1 (T.ec 20 (by decide)) T.t1 G hr b2 (T.nm 20 (by decide)) (pv 0) (fun _ _ _ q => q)) (pa_errs dg (pe_err1 (T.ec 21 (by decide)) T.t1 G hr b2 (T.nm 21 (by decide)) (pv 0) (fun _ _ _ q => q)) (pa_errs dg (pe_err1 (T.ec 22 (by decide)) T.t1 G hr b2 (T.nm 22 (by decide)) (pv 0) (fun _ _ _ q => q)) (pa_errs0 _)))))))))))), ?_⟩
    dsimp only [tSeq, tAsg]
    refine new_err rfl fun p1 as1 H1 s1 n1 l1 e1 => ?_
    refine cat_err l1 e1 rfl fun p2 as2 H2 s2 n2 l2 e2 => ?_
    refine cat_err l2 e2 rfl fun p3 as3 H3 s3 n3 l3 e3 => ?_
    refine cat_err l3 e3 rfl fun p4 as4 H4 s4 n4 l4 e4 => ?_
    exact k p4 as4 H4 (s1.trans (s2.trans (s3.trans (s4)))) (s1.free (s2.free (s3.free (n4)))) l4 e4
theorem sc_named : FnScope ["_law_value", "_law_found"] ["_law_value"] (defScope sNamed) := ⟨rfl, rfl, rfl, by decide +kernel, rfl, by decide +kernel, by decide +kernel⟩
theorem ok_named {f : Addr} {fd fd1 : FuncData} (F : Fun K "_law_named" "_law_named" sNamed f fd) (T : TxtE K mg f1 cs) (F1 : EInit K f1 fd1) : FnOk P w K mg base CX0 3 f fd ["_law_value"] (spErrs 1 cs) := by
  have G : FnOk P w K mg base CX0 1 f1 fd1 ["self", "what"] (spEInit K f1) := ok_einit F1
  obtain ⟨gg, bK⟩ := b_einitK F1
  have dg : Det fun (σ : L2.St) (v : V) => σ[0]? = some (some v) := fun _ _ _ a b => Option.some.inj (Option.some.inj (a.symm.trans b))
  refine F.ok sc_named (fun vs H Q E h => ?_) (fun cdv A outer s H vs Q E hr h => ?_)
  · obtain ⟨v, _, h1, _⟩ := h
    rw [h1 rfl]
    rfl
  · obtain ⟨v, _, h1, _, k⟩ := h
    obtain rfl := h1 rfl
    refine ⟨_, pss_cons (ps_set (i := 1) sc_named.nd rfl (Or.inl rfl) (pe_lst (pa_errs dg (pe_errK (T.ec 0 (by decide)) T.t1 G hr bK (T.nm 0 (by decide)) (pv 0) (fun _ _ _ q => q)) (pa_errs dg (pe_errK (T.ec 1 (by decide)) T.t1 G hr bK (T.nm 1 (by decide)) (pv 0) (fun _ _ _ q => q)) (pa_errs dg (pe_errK (T.ec 2 (by decide)) T.t1 G hr bK (T.nm 2 (by decide)) (pv 0) (fun _ _ _ q => q)) (pa_errs dg (pe_errK (T.ec 3 (by decide)) T.t1 G hr bK (T.nm 3 (by decide)) (pv 0) (fun _ _ _ q => q)) (pa_errs dg (pe_errK (T.ec 4 (by decide)) T.t1 G hr bK (T.nm 4 (by decide)) (pv 0) (fun _ _ _ q => q)) (pa_errs0 _))))))))
      (pss_cons (ps_set (i := 1) sc_named.nd rfl (Or.inl rfl) (pe_op op_cat (pv 1) (pe_lst (pa_errs dg (pe_errK (T.ec 5 (by decide)) T.t1 G hr bK (T.nm 5 (by decide)) (pv 0) (fun _ _ _ q => q)) (pa_errs dg (pe_errK (T.ec 6 (by decide)) T.t1 G hr bK (T.nm 6 (by decide)) (pv 0) (fun _ _ _ q => q)) (pa_errs dg (pe_errK (T.ec 7 (by decide)) T.t1 G hr bK (T.nm 7 (by decide)) (pv 0) (fun _ _ _ q => q)) (pa_errs dg (pe_errK (T.ec 8 (by decide)) T.t1 G hr bK (T.nm 8 (by decide)) (pv 0) (fun _ _ _ q => q)) (pa_errs0 _))))))))
      (pss_cons (ps_set (i := 1) sc_named.nd rfl (Or.inl rfl) (pe_op op_cat (pv 1) (pe_lst (pa_errs dg (pe_errK (T.ec 9 (by decide)) T.t1 G hr bK (T.nm 9 (by decide)) (pv 0) (fun _ _ _ q => q)) (pa_errs dg (pe_errK (T.ec 10 (by decide)) T.t1 G hr bK (T.nm 10 (by decide)) (pv 0) (fun _ _ _ q => q)) (pa_errs dg (pe_errK (T.ec 11 (by decide)) T.t1 G hr bK (T.nm 11 (by decide)) (pv 0) (fun _ _ _ q => q)) (pa_errs dg (pe_errK (T.ec 12 (by decide)) T.t1 G hr bK (T.nm 12 (by decide)) (pv 0) (fun _ _ _ q => q)) (pa_errs0 _))))))))
      (pss_cons (ps_set (i := 1) sc_named.nd rfl (Or.inl rfl) (pe_op op_cat (pv 1) (pe_lst (pa_errs dg (pe_errK (T.ec 13 (by decide)) T.t1 G hr bK (T.nm 13 (by decide)) (pv 0) (fun _ _ _ q => q)) (pa_errs dg (pe_errK (T.ec 14 (by decide)) T.t1 G hr bK (T.nm 14 (by decide)) (pv 0) (fun _ _ _ q => q)) (pa_errs dg (pe_errK (T.ec 15 (by decide)) T.t1 G hr bK (T.nm 15 (by decide)) (pv 0) (fun _ _ _ q => q)) (pa_errs dg (pe_errK (T.ec 16 (by decide)) T.t1 G hr bK (T.nm 16 (by decide)) (pv 0) (fun _ _ _ q => q)) (pa_errs0 _))))))))
      (pss_cons (ps_set (i := 1) sc_named.nd rfl (Or.inl rfl) (pe_op op_cat (pv 1) (pe_lst (pa_errs dg (pe_errK (T.ec 17 (by decide)) T.t1 G hr bK (T.nm 17 (by decide)) (pv 0) (fun _ _ _ q => q)) (pa_errs dg (pe_errK (T.ec 18 (by decide)) T.t1 G hr bK (T.nm 18 (by decide)) (pv 0) (fun _ _ _ q => q)) (pa_errs dg (pe_errK (T.ec 19 (by decide)) T.t1 G hr bK (T.nm 19 (by decide)) (pv 0) (fun _ _ _ q => q)) (pa_errs dg (pe_errK (T.ec 20 (by decide)) T.t1 G hr bK (T.nm 20 (by decide)) (pv 0) (fun _ _ _ q => q)) (pa_errs0 _))))))))
      (pss_one (ps_ret (pe_op op_cat (pv 1) (pe_lst (pa_errs dg (pe_errK (T.ec 21 (by decide)) T.t1 G hr bK (T.nm 21 (by decide)) (pv 0) (fun _ _ _ q => q)) (pa_errs dg (pe_errK (T.ec 22 (by decide)) T.t1 G hr bK (T.nm 22 (by decide)) (pv 0) (fun _ _ _ q => q)) (pa_errs0 _))))))))))), ?_⟩
    dsimp only [tSeq, tAsg]
    refine new_err rfl fun p1 as1 H1 s1 n1 l1 e1 => ?_
    refine cat_err l1 e1 rfl fun p2 as2 H2 s2 n2 l2 e2 => ?_
    refine cat_err l2 e2 rfl fun p3 as3 H3 s3 n3 l3 e3 => ?_
    refine cat_err l3 e3 rfl fun p4 as4 H4 s4 n4 l4 e4 => ?_
    refine cat_err l4 e4 rfl fun p5 as5 H5 s5 n5 l5 e5 => ?_
    refine cat_err l5 e5 rfl fun p6 as6 H6 s6 n6 l6 e6 => ?_
    exact k p6 as6 H6 (s1.trans (s2.trans (s3.trans (s4.trans (s5.trans (s6)))))) (s1.free (s2.free (s3.free (s4.free (s5.free (n6)))))) l6 e6
end
end Oh
namespace Oh
open PySem PySem.Spec PyProof.Rows L2
theorem Errs.get {H : Hp} {v : V} : ∀ {as Cs : List Addr} {i : Nat} {C : Addr}, Errs H v as Cs → Cs[i]? = some C → ∃ a, as[i]? = some a ∧ ErrAt H a C v
  | _, _, i, C, .nil, h => by simp at h
  | _, _, 0, C, .cons (a := a) h1 _, h => by
    have e := Option.some.inj h
    subst e
    exact ⟨a, rfl, h1⟩
  | _, _, i + 1, C, .cons _ t, h => Errs.get (i := i) t h
theorem dp_bools {K : PySem.W.Frag} {H : Hp} : ∀ bs : List Bool, DpAll K H (bs.map V.bl) (bs.map PyData.bool)
  | [] => .nil
  | b :: r => .cons (.bl b) (dp_bools r)
theorem dp_boolL {K : PySem.W.Frag} {H : Hp} {p : Addr} {bs : List Bool} (h : H p = some (.lst (bs.map V.bl))) : Dp K H (.ref p) (.list (bs.map PyData.bool)) := .lst (SqL.of h) (dp_bools bs)
abbrev row (k : Nat) : List Bool := (List.range 23).map fun j => decide (j = k)
theorem row_ok : ∀ k, k < 23 → (SeqAt.shaped (PyData.list ((row k).map PyData.bool)) = true ∧ PyData.eqv (PyData.list ((row k).map PyData.bool)) (PyData.list ((row k).map PyData.bool)) = true) := by decide +kernel
theorem int_dec (i k : Nat) : decide (V.int (0 + (i : Int)) = V.int (0 + (k : Int))) = decide (i = k) := by
  by_cases h : i = k
  · subst h
    simp
  · have z : ¬ V.int (0 + (i : Int)) = V.int (0 + (k : Int)) := fun e => h (by have := V.int.inj e; omega)
    rw [decide_eq_false h, decide_eq_false z]
/-- a list of one error of each class, all of the value v -/
def spRight (cs : Nat → Addr) : Sp := fun vs H Q _ => ∃ (p : Addr) (v : V) (as : List Addr), vs = [.ref p, v] ∧ H p = some (.lst (as.map V.ref)) ∧ Errs H v as ((List.range 23).map cs) ∧ OV H (fun _ => True) 3 v ∧ ∀ H', Same H H' → Q (.bl true) H'
/-- how the classes stand to one another -/
structure KitE (K : PySem.W.Frag) (cs : Nat → Addr) (hC : Addr) : Prop where
  each : ∀ i j, i < 23 → j < 23 → PySem.W.kitOne K (.ref (cs i)) (.ref (cs j)) = some (decide (j = i))
  base : ∀ i, i < 23 → PySem.W.kitOne K (.ref (cs i)) (.ref hC) = some true
  val : ∀ i, i < 23 → PySem.W.kitOne K (.ref (cs i)) (.type "ValueError") = some true
section
variable {P : Program} {w : World} {K : PySem.W.Frag} {mg : Str → Option Value} {base : Heap} {f1 hC : Addr} {cs : Nat → Addr}
abbrev nRi : List Str := ["_law_errors", "_law_due", "_law_k", "_law_error", "_law_number"]
theorem scRight : FnScope nRi ["_law_errors", "_law_due"] (defScope sRight) := ⟨rfl, rfl, rfl, by decide +kernel, rfl, by decide +kernel, by decide +kernel⟩
theorem ok_right {f fF fS : Addr} {fd fdF fdS : FuncData} (F : Fun K "_law_right" "_law_right" sRight f fd) (T : TxtE K mg f1 cs) (TI : TxtI mg) (TK : KitE K cs hC) (mH : mg "HeardError" = some (.ref hC)) (mV : mg "ValueError" = none)
    (GF : FnOk P w K mg base CX0 2 fF fdF ["_law_error"] (spF1 K cs 23)) (kF : PySem.W.keepIn K (.ref fF) = true) (bF : Binds K fdF ["_law_error"] []) (mF : mg "_law_flags" = some (.ref fF))
    (GS : FnOk P w K mg base CX0 5 fS fdS ["_law_actual", "_law_due"] (spSame 3)) (kS : PySem.W.keepIn K (.ref fS) = true) (bS : Binds K fdS ["_law_actual", "_law_due"] []) (mS : mg "_law_same_value" = some (.ref fS)) :
    FnOk P w K mg base CX0 6 f fd ["_law_errors", "_law_due"] (spRight cs) := by
  refine F.ok scRight (fun vs H Q E h => ?_) (fun cdv A outer s H vs Q E hr h => ?_)
  · obtain ⟨p, v, as, rfl, _⟩ := h
    rfl
  · obtain ⟨p, v, as, rfl, hp, he, ho, k⟩ := h
    have hr2 : Room 2 _ := hr.mono (by decide)
    have hu := hr.units
    refine ⟨_, pss_cons (ps_if (pt_cmpR op_ne (pe_callB call_len_seq (by rfl) TI.len boot_len (pa_cons (pv 0) pa_nil)) pe_int (nomark _)) (pss_one (ps_ret pe_bl)) pss_nil)
      (pss_cons (ps_for PassesOwn.never rfl (pi_range1 (by rfl) TI.range (pa_cons pe_int pa_nil)) (pg_name (i := 2) scRight.nd rfl (Or.inr rfl))
        (pss_cons (ps_set (i := 3) scRight.nd rfl (Or.inl rfl) (pe_ix ix_list (pv 0) (pv 2) (fun _ _ => rfl)))
        (pss_cons (ps_if (pw_or (pt_not (pt_val (pe_isc (pv 3) mono_var T.isi mH))) (pw_or1 (pt_not (pt_val (pe_isb (pv 3) mono_var T.isi mV bb_ValueError))))).pt (pss_one (ps_ret pe_bl)) pss_nil)
        (pss_cons (ps_if (pt_cmpR (op_neD hu) (pe_call GF hr2 (by rfl) mF kF bF .nil pass0 (pa_cons (pv 3) pa_nil))
            (pe_lc (own := [("_law_number", 4)]) (g := gName 4) (tt := tYes) rfl scRight.nd (pi_range1 (by rfl) TI.range (pa_cons pe_int pa_nil)) (blkOk_by (N := nRi) (sc := defScope sRight) (by decide +kernel)) (fun _ _ _ _ _ => pg_name (i := 4) scRight.nd rfl (Or.inl rfl)) (fun _ _ _ _ _ => pts_nil)
              (fun _ _ _ _ _ => pe_cmpR op_eq (pv 4) (pv 2) (nomark _))) (nomark _)) (pss_one (ps_ret pe_bl)) pss_nil)
        (pss_one (ps_if (pt_not (pt_val (pe_call GS hr (by rfl) mS kS bS .nil pass0 (pa_cons (pe_efld (pv 3)) (pa_cons (pv 1) pa_nil))))) (pss_one (ps_ret pe_bl)) pss_nil))))))
      (pss_one (ps_ret pe_bl))), ?_⟩
    have hlen : as.length = 23 := by rw [errs_len he]; rfl
    refine ⟨_, rfl, p, _, rfl, .inl (SqL.of hp), rfl, _, rfl, iteNS (by rw [List.length_map, hlen]; rfl) ?_⟩
    refine ⟨_, rfl, by decide, by decide, for_range (lo := 0) (n := 23) (fun i σ H' => ∃ x y : Option V, σ = [some (.ref p), some v, x, y, none] ∧ Same H H') ⟨_, _, rfl, Same.refl H⟩ ?_ ?_⟩
    · rintro i σ H' hi ⟨x, y, rfl, hS⟩
      obtain ⟨a, ea, er⟩ := he.get (i := i) (C := cs i) (by simp [hi])
      have er' := er.keep hS
      have hat : atI (as.map V.ref) (0 + (i : Int)) = some (V.ref a) := at_of (j := i) (by omega) (by rw [List.getElem?_map, ea]; rfl)
      have ec := T.ec i hi
      refine ⟨_, rfl, _, rfl, p, _, _, _, rfl, rfl, SqL.of (hS _ _ hp), hat, ?_⟩
      refine ⟨_, rfl, a, cs i, true, rfl, er'.is, ec.ec, TK.base i hi, _, rfl, iteF ⟨_, rfl, a, cs i, true, rfl, er'.is, ec.ec, TK.val i hi, _, rfl, iteF ?_⟩⟩
      refine ⟨_, rfl, a, cs i, fun j => decide (j = i), rfl, er'.is, ec.ec, fun j hj => TK.each i j hi hj, fun q H1 s1 n1 l1 => ?_⟩
      have l1' : H1 q = some (.lst ((row i).map V.bl)) := by rw [l1, List.map_map]; rfl
      refine ⟨_, rfl, by decide, by decide, fun D hD => lc_range (lo := 0) (n := 23) (fun j H2 => Same H1 H2 ∧ H2 D = some (.lst (((List.range j).map fun m => decide (m = i)).map V.bl))) ⟨Same.new hD, by rw [upd_same]; rfl⟩ ?_ ?_⟩
      · rintro j H2 hj ⟨q1, q2⟩
        refine ⟨rfl, _, rfl, _, rfl, rfl, _, q2, small1000 (by rw [List.length_map, List.length_map, List.length_range]; omega), fun b o e => ?_, ?_⟩
        · rw [upd_ne (ne_of_none e hD)]
          exact q1 b o e
        · rw [upd_same, List.range_succ, List.map_append, List.map_append]
          show some (HO.lst (_ ++ [V.bl (decide (V.int (0 + (j : Int)) = V.int (0 + (i : Int))))])) = _
          rw [int_dec]
          rfl
      · rintro H2 ⟨q1, q2⟩
        obtain ⟨r1, r2⟩ := row_ok i hi
        have er2 := er'.keep (s1.trans q1)
        obtain ⟨d, hd1, hd2⟩ := id er2
        refine ⟨_, _, dp_boolL (bs := row i) (q1 _ _ l1'), dp_boolL (bs := row i) q2, r1, r1, _, rfl, ?_⟩
        rw [r2]
        refine iteF ⟨_, rfl, a, cs i, d, _, v, rfl, hd1, hd2, ec.xf, ec.no, (by simp [List.lookup]), _, rfl, v, rfl, OV.keep (fun b o _ e => q1 b o (s1 b o (hS b o e))) (fun _ z => z) ho, fun H3 h3 => ⟨_, rfl, iteF ⟨_, _, rfl, hS.trans (s1.trans (q1.trans h3))⟩⟩⟩
    · rintro σ H' ⟨x, y, rfl, hS⟩
      exact k H' hS
end
end Oh
/-! Set comprehensions of two clauses, over any kind of member: e0 says what the new set is, Add what one member more makes of it. -/
namespace Oh
open PySem PySem.Spec PyProof.Rows L2 PpSet
abbrev sc2 (elt t0 i0 t1 i1 : Expr) (ifs0 ifs1 : List Expr) (scope : Scope) (pos : Pos) : Expr := .SetComp elt [⟨t0, i0, ifs0, 0⟩, ⟨t1, i1, ifs1, 0⟩] scope pos
section
variable (elt t0 i0 t1 i1 : Expr) (ifs0 ifs1 : List Expr) (scope : Scope) (pos : Pos) (it acc : Value) (env : Env)
theorem turnOuter : compTurn (sc2 elt t0 i0 t1 i1 ifs0 ifs1 scope pos) 0 it acc env = (do
      standAt i0.pos
      match ← pyNext it with
      | none => pure (.done .next)
      | some v =>
        letOwnedTupleGo t0 it v
        assign t0 env v
        let mut ok := true
        for c in ifs0 do
          if ok then ok ← isTrue c env (eval c env)
        if ok then
          let x ← eval i1 env
          standAt i1.pos
          let x ← foldedSetIterable i1 env x
          let _ ← runOwn (.compStart (sc2 elt t0 i0 t1 i1 ifs0 ifs1 scope pos) 1 (← holding [x] (pyIter x)) acc env) env
        again (.compLoop (sc2 elt t0 i0 t1 i1 ifs0 ifs1 scope pos) 0 it acc env)) := by rfl
theorem turnInner : compTurn (sc2 elt t0 i0 t1 i1 ifs0 ifs1 scope pos) 1 it acc env = (do
      standAt i1.pos
      match ← pyNext it with
      | none => pure (.done .next)
      | some v =>
        letOwnedTupleGo t1 it v
        assign t1 env v
        let mut ok := true
        for c in ifs1 do
          if ok then ok ← isTrue c env (eval c env)
        if ok then
          (do let v ← eval elt env; standAt elt.pos; let _ ← call (.builtin "set.add") [acc, v])
        again (.compLoop (sc2 elt t0 i0 t1 i1 ifs0 ifs1 scope pos) 1 it acc env)) := by rfl
end
section
variable {prog : Program} {w : World} {A : Around} {R : Result → Shared → Prop} {s : Shared} {elt t0 i0 t1 i1 : Expr} {ifs0 ifs1 : List Expr} {scope : Scope} {pos : Pos} {it acc : Value} {env : Env}
abbrev NB (prog : Program) (w : World) (A : Around) (env : Env) (R : Result → Shared → Prop) : Value → Shared → Prop := notedBy (model prog w) A env fun e s' => R (.error e) s'
abbrev testsOf (ifs : List Expr) (env : Env) : Sem Bool := forIn ifs true fun c r => if r = true then do let ok ← isTrue c env (eval c env); pure (ForInStep.yield ok) else pure (ForInStep.yield r)
theorem outer_loop (hs : ∀ x, foldedSetIterable i1 env x = pure x) (I : Nat → Shared → Prop)
    (turn : ∀ n s, I n s → wpAny (model prog w) A (pyNext it) (fun r a => match r with
      | none => R (.ok .next) a
      | some v => wpAny (model prog w) A (letOwnedTupleGo t0 it v) (fun _ b => wpAny (model prog w) A (assign t0 env v) (fun _ c => wpAny (model prog w) A (testsOf ifs0 env) (fun ok d =>
            if ok = true then wpAny (model prog w) A (eval i1 env) (fun x e => wpAny (model prog w) A (pyIter x) (fun it1 f =>
              codeAny (model prog w) A (.compStart (sc2 elt t0 i0 t1 i1 ifs0 ifs1 scope pos) 1 it1 acc env) (fun r s' => match r with
                | .ok _ => ∃ m, m < n ∧ I m s'
                | .error _ => False) f) (NB prog w A env R) e) (NB prog w A env R) d
            else ∃ m, m < n ∧ I m d) (NB prog w A env R) c) (NB prog w A env R) b) (NB prog w A env R) a) (NB prog w A env R) s)
    (n : Nat) (h : I n s) : codeAny (model prog w) A (.compLoop (sc2 elt t0 i0 t1 i1 ifs0 ifs1 scope pos) 0 it acc env) R s := by
  refine codeAny_loop rfl I (fun n s hI => ?_) n h
  show wpAny _ A ((compTurn (sc2 elt t0 i0 t1 i1 ifs0 ifs1 scope pos) 0 it acc env).onRaise (fun x => do noteFrame x env; theTreesLotGoes x)) _ _ s
  refine wpAny_noted ?_
  rw [turnOuter]
  refine wpAny_bind (wpAny_standAt (wpAny_bind (wpAny_mono (turn n s hI) (fun r a ha => ?_) fun _ _ z => z)))
  cases r with
  | none => exact wpAny_pure ha
  | some v =>
    refine wpAny_bind (wpAny_mono ha (fun _ b hb => wpAny_bind (wpAny_mono hb (fun _ c hc => wpAny_bind (wpAny_mono hc (fun ok d hd => ?_) fun _ _ z => z)) fun _ _ z => z)) fun _ _ z => z)
    cases ok with
    | false => exact wpAny_pure ⟨rfl, hd⟩
    | true =>
      refine wpAny_bind (wpAny_mono hd (fun x e he => ?_) fun _ _ z => z)
      refine wpAny_bind (wpAny_standAt (wpAny_bind (wpAny_of_eq (hs x) (wpAny_bind (wpAny_holding (wpAny_mono he (fun it1 f hf => ?_) fun _ _ z => z))))))
      refine wpAny_bind (wpAny_runOwn ?_)
      rw [Around.mark_none]
      refine codeAny_mono hf fun r s' hr => ?_
      cases r with
      | error e => exact hr.elim
      | ok f =>
        first
          | exact wpAny_pure ⟨rfl, hr⟩
          | exact wpAny_bind (wpAny_pure (wpAny_pure ⟨rfl, hr⟩))
theorem inner_loop (I : Nat → Shared → Prop)
    (turn : ∀ n s, I n s → wpAny (model prog w) A (pyNext it) (fun r a => match r with
      | none => R (.ok .next) a
      | some v => wpAny (model prog w) A (letOwnedTupleGo t1 it v) (fun _ b => wpAny (model prog w) A (assign t1 env v) (fun _ c => wpAny (model prog w) A (testsOf ifs1 env) (fun ok d =>
            if ok = true then wpAny (model prog w) A (eval elt env) (fun x e => wpAny (model prog w) A (call (.builtin "set.add") [acc, x]) (fun _ f => ∃ m, m < n ∧ I m f) (NB prog w A env R) e) (NB prog w A env R) d
            else ∃ m, m < n ∧ I m d) (NB prog w A env R) c) (NB prog w A env R) b) (NB prog w A env R) a) (NB prog w A env R) s)
    (n : Nat) (h : I n s) : codeAny (model prog w) A (.compLoop (sc2 elt t0 i0 t1 i1 ifs0 ifs1 scope pos) 1 it acc env) R s := by
  refine codeAny_loop rfl I (fun n s hI => ?_) n h
  show wpAny _ A ((compTurn (sc2 elt t0 i0 t1 i1 ifs0 ifs1 scope pos) 1 it acc env).onRaise (fun x => do noteFrame x env; theTreesLotGoes x)) _ _ s
  refine wpAny_noted ?_
  rw [turnInner]
  refine wpAny_bind (wpAny_standAt (wpAny_bind (wpAny_mono (turn n s hI) (fun r a ha => ?_) fun _ _ z => z)))
  cases r with
  | none => exact wpAny_pure ha
  | some v =>
    refine wpAny_bind (wpAny_mono ha (fun _ b hb => wpAny_bind (wpAny_mono hb (fun _ c hc => wpAny_bind (wpAny_mono hc (fun ok d hd => ?_) fun _ _ z => z)) fun _ _ z => z)) fun _ _ z => z)
    cases ok with
    | false => exact wpAny_pure ⟨rfl, hd⟩
    | true =>
      exact wpAny_bind (wpAny_bind (wpAny_mono hd (fun x e he => wpAny_bind (wpAny_standAt (wpAny_bind (wpAny_mono he (fun _ f hf => wpAny_pure (wpAny_pure ⟨rfl, hf⟩)) fun _ _ z => z)))) fun _ _ z => z))
theorem inner_start (h0 : codeAny (model prog w) A (.compLoop (sc2 elt t0 i0 t1 i1 ifs0 ifs1 scope pos) 1 it acc env) R s)
    (h : wpAny (model prog w) A (pyIter it) (fun it' s' => codeAny (model prog w) A (.compLoop (sc2 elt t0 i0 t1 i1 ifs0 ifs1 scope pos) 1 it' acc env) R s') (notedBy (model prog w) A env fun x s' => R (.error x) s') s) :
    codeAny (model prog w) A (.compStart (sc2 elt t0 i0 t1 i1 ifs0 ifs1 scope pos) 1 it acc env) R s := by
  refine codeAny_of_tree ?_
  show wpAny _ _ ((compStart (sc2 elt t0 i0 t1 i1 ifs0 ifs1 scope pos) 1 it acc env).onRaise (fun x => do noteFrame x env; standAt theWindowsPlace)) _ _ s
  refine wpAny_notedAt ?_
  unfold compStart
  show wpAny _ _ (ask >>= _) _ _ s
  refine wpAny_bind (wpAny_askSetting (wpAny_ite ?_))
  split
  · first
      | exact wpAny_bind (wpAny_pure (wpAny_pure (And.intro rfl h0)))
      | exact wpAny_pure (And.intro rfl h0)
  · first
      | exact wpAny_bind (wpAny_rule (wpAny_bind (wpAny_standAt (wpAny_bind (wpAny_mono h (fun it' s' z => wpAny_pure (And.intro rfl z)) fun _ _ x => x)))))
      | (refine wpAny_bind (wpAny_rule ?_); show wpAny _ _ (standAt i1.pos >>= _) _ _ s; exact wpAny_bind (wpAny_standAt (wpAny_bind (wpAny_mono h (fun it' s' z => wpAny_pure (And.intro rfl z)) fun _ _ x => x))))
end
/-- what the new set is, as the machine lays it -/
abbrev setObj (w : World) : Obj := { cls := .type "set", dict := none, data := .set #[] 0 (.fresh 0 0 (!w.params.followText "set-order")) }
/-- a kind of set: e0 tells of the new one at D, Add of one member more -/
structure SKind (P : Program) (w : World) (e0 : Addr → HO) (Add : Addr → V → Hp → Hp → Prop) : Prop where
  new : ∀ (H : Hp) (h : Heap), ObjOk P w H (h.push (setObj w)) h.objs.size (e0 h.objs.size)
  add : ∀ (X : Cx), X.prog = P → X.w = w → ∀ (pins : List (Addr × Obj)) (σ : L2.St) (H H' : Hp) (s : Shared) (E : Value → Shared → Prop) (D : Addr) (y : V) (u : Value) (Q : Value → Shared → Prop), Inv X pins σ H s → RelV y u → Add D y H H' →
    (∀ s', Inv X pins σ H' s' → Q .none s') → wpAny (model X.prog X.w) X.A (call (.builtin "set.add") [.ref D, u]) Q E s
def tSc2 (e0 : Addr → HO) (Add : Addr → V → Hp → Hp → Prop) (wi : TI) (g : TG) (tt : TT) (wi1 : TI) (g1 : TG) (tt1 : TT) (te : TE) (vs vs1 : List Nat) : TE := fun σ H Q => wi σ H fun J H1 => ∀ D, H1 D = none → ∃ W : Nat → Nat → Hp → Prop, (∃ m, W 0 m (upd H1 D (e0 D))) ∧ ∀ i m H, W i m H →
  (J.stop i H ∧ Q (.ref D) H) ∨ (J.go i H ∧ ∃ Nx : Hp → Prop, (∀ H', Nx H' → ∃ m', m' < m ∧ W (i + 1) m' H') ∧ ∀ x H', J.yld i H x H' → g x (wipe σ vs) H' fun σ2 H2 => wipe σ2 vs = wipe σ vs ∧ tt σ2 H2 fun b H3 =>
    if b = true then wi1 σ2 H3 fun J1 H4 => ∃ W1 : Nat → Nat → Hp → Prop, (∃ m, W1 0 m H4) ∧ ∀ j k H, W1 j k H →
      (J1.stop j H ∧ Nx H) ∨ (J1.go j H ∧ ∃ Nx1 : Hp → Prop, (∀ H', Nx1 H' → ∃ k', k' < k ∧ W1 (j + 1) k' H') ∧ ∀ x H', J1.yld j H x H' → g1 x (wipe σ2 vs1) H' fun σ3 H5 => wipe σ3 vs1 = wipe σ2 vs1 ∧ tt1 σ3 H5 fun b H6 =>
        if b = true then te σ3 H6 fun y H7 => ∃ H8, Add D y H7 H8 ∧ Nx1 H8 else Nx1 H6)
    else Nx H3)
section
variable {X : Cx}
theorem sc2_core {e0 : Addr → HO} {Add : Addr → V → Hp → Hp → Prop} {pins : List (Addr × Obj)} {s : Shared} {σ : L2.St} {H : Hp} {Q : VK} {elt tg iter tg1 iter1 : Expr} {ifs ifs1 : List Expr} {scope : Scope} {own : List (PySem.Str × Nat)} {vs1 : List Nat} {pos pos' : Pos} {wi wi1 : TI} {g g1 : TG} {tt tt1 : TT} {te : TE} {use : Option (Value → Sem Unit)} {Qf : Value → Shared → Prop}
    (kd : SKind X.prog X.w e0 Add) (hc : X.calm = true) (hN : X.N.Nodup) (I : Inv X pins σ H s) (hi : PI X tg iter wi) (ok : BlkOk X.N X.env.scope scope own) (hv : ∀ i ∈ vs1, i ∈ own.map (·.2))
    (hg : ∀ (s : Shared) (H : Hp) (C : Addr) (cl : List (PySem.Str × Addr)) (fp : List Addr), PG (X.blk s H scope (compEnvC scope cl C X.env) fp) tg g)
    (ht : ∀ (s : Shared) (H : Hp) (C : Addr) (cl : List (PySem.Str × Addr)) (fp : List Addr), PTs (X.blk s H scope (compEnvC scope cl C X.env) fp) ifs tt)
    (he : ∀ (s : Shared) (H : Hp) (C : Addr) (cl : List (PySem.Str × Addr)) (fp : List Addr), PE (X.blk s H scope (compEnvC scope cl C X.env) fp) elt te)
    (hi1 : ∀ (s : Shared) (H : Hp) (C : Addr) (cl : List (PySem.Str × Addr)) (fp : List Addr), PI (X.blk s H scope (compEnvC scope cl C X.env) fp) tg1 iter1 wi1)
    (hg1 : ∀ (s : Shared) (H : Hp) (C : Addr) (cl : List (PySem.Str × Addr)) (fp : List Addr), PG (X.blk s H scope (compEnvC scope cl C X.env) fp) tg1 g1)
    (ht1 : ∀ (s : Shared) (H : Hp) (C : Addr) (cl : List (PySem.Str × Addr)) (fp : List Addr), PTs (X.blk s H scope (compEnvC scope cl C X.env) fp) ifs1 tt1)
    (hs : ∀ x, foldedSetIterable iter X.env x = pure x) (hs1 : ∀ env x, foldedSetIterable iter1 env x = pure x)
    (h : tSc2 e0 Add wi g tt wi1 g1 tt1 te (own.map (·.2)) vs1 σ H Q)
    (hRR : ∀ D C s' m H', Inv X pins σ H' s' → Q (.ref D) H' → s'.heap.Ns C m → FpOk X pins H' C → compPost (model X.prog X.w) X.A X.xe use Qf (.ref D) C (.ok .next) s') :
    wpAny (model X.prog X.w) X.A (comprehension (sc2 elt tg iter tg1 iter1 ifs ifs1 scope pos) scope X.env pos' (newSet (.type "set")) false (eval iter X.env) use) Qf X.xe s := by
  have closes : ∀ y ∈ scope.names, y.2 = .free → ∃ c, X.env.cells.lookup y.1 = some c := fun y hy e => (ok.free y hy e).elim (fun k => I.ok.has _ (.inl k)) fun k => I.ok.has _ (.inr k)
  refine wpAny_comprehension_free (use := use) rfl hs (closure_ok closes) ok.kind (fun y hy e => by rw [ok.uniq y hy, e]) (thn (hi.run pins s σ H _ I h) fun xv s1 hx => thn hx fun itv s2 h2 => ?_)
  obtain ⟨it, fp, tn, J, H2, e, I2, T, st2, f2, q⟩ := h2
  subst e
  refine newSet_ok (newEnv_comp ?_)
  generalize hD : s2.heap.objs.size = D
  obtain ⟨W, ⟨m0, w0⟩, turn⟩ := q D (I2.hok.fresh (Nat.le_of_eq hD))
  generalize hs3 : ({ s2 with heap := s2.heap.push (setObj X.w) } : Shared) = s3
  have h3 : s3.heap = s2.heap.push (setObj X.w) := by rw [← hs3]
  have I3 : Inv X pins σ (upd H2 D (e0 D)) s3 := by
    rw [← hs3]
    refine I2.laid (t' := s2.toks) (fun b o z => Heap.get?_push_of_some _ z) (Nat.le_of_eq hD) ?_
    rw [← hD]
    exact kd.new _ s2.heap
  have f3 : ∀ b ∈ fp, FpOk X pins (upd H2 D (e0 D)) b ∧ b < s3.heap.objs.size := fun b hb => by
    obtain ⟨o, eo, _⟩ := T.obj _ _ st2 b hb
    have lt : b < s2.heap.objs.size := Heap.lt_size eo
    refine ⟨⟨?_, (f2 b hb).2⟩, by rw [h3, Heap.size_push]; exact Nat.lt_succ_of_lt lt⟩
    rw [upd_ne (by rw [← hD]; exact Nat.ne_of_lt lt)]
    exact (f2 b hb).1
  have st3 : tn 0 s3.heap := T.keep _ _ _ st2 fun b _ o z => by rw [h3]; exact Heap.get?_push_of_some _ z
  have I4 := block_start I3 ok hN f3
  have j1 := hg s3 (upd H2 D (e0 D)) s3.heap.objs.size (cellsFrom (s3.heap.objs.size + 1) scope.names (cloFrom X.env.cells scope.names [])) fp
  have j2 := ht s3 (upd H2 D (e0 D)) s3.heap.objs.size (cellsFrom (s3.heap.objs.size + 1) scope.names (cloFrom X.env.cells scope.names [])) fp
  have j3 := he s3 (upd H2 D (e0 D)) s3.heap.objs.size (cellsFrom (s3.heap.objs.size + 1) scope.names (cloFrom X.env.cells scope.names [])) fp
  have j4 := hi1 s3 (upd H2 D (e0 D)) s3.heap.objs.size (cellsFrom (s3.heap.objs.size + 1) scope.names (cloFrom X.env.cells scope.names [])) fp
  have j5 := hg1 s3 (upd H2 D (e0 D)) s3.heap.objs.size (cellsFrom (s3.heap.objs.size + 1) scope.names (cloFrom X.env.cells scope.names [])) fp
  have j6 := ht1 s3 (upd H2 D (e0 D)) s3.heap.objs.size (cellsFrom (s3.heap.objs.size + 1) scope.names (cloFrom X.env.cells scope.names [])) fp
  show codeAny _ _ (.compStart (sc2 elt tg iter tg1 iter1 ifs ifs1 scope pos) 0 (.ref it) (.ref D) (compEnvC scope (cellsFrom (s3.heap.objs.size + 1) scope.names (cloFrom X.env.cells scope.names [])) s3.heap.objs.size X.env)) (compPost (model X.prog X.w) X.A X.xe use Qf (.ref D) s3.heap.objs.size) { s3 with heap := pushCells (s3.heap.push { cls := .type "dict", data := .dict #[] }) scope.names }
  have none3 : ∀ b ∈ fp, (upd H2 D (e0 D)) b = none := fun b hb => (f3 b hb).1.1
  generalize hce : compEnvC scope (cellsFrom (s3.heap.objs.size + 1) scope.names (cloFrom X.env.cells scope.names [])) s3.heap.objs.size X.env = ce at I4 j1 j2 j3 j4 j5 j6 ⊢
  have cL : ce.locals = s3.heap.objs.size := by subst hce; rfl
  generalize hH3 : upd H2 D (e0 D) = H3 at I3 I4 j1 j2 j3 j4 j5 j6 w0 none3 f3
  generalize hs4 : ({ s3 with heap := pushCells (s3.heap.push { cls := .type "dict", data := .dict #[] }) scope.names } : Shared) = s4 at I4 ⊢
  have st4 : tn 0 s4.heap := T.keep _ _ _ st3 fun b _ o z => by rw [← hs4]; exact pushCells_keeps _ _ _ _ (Heap.get?_push_of_some _ z)
  have own4 : ∀ {σ' : L2.St} {H' : Hp} {s' : Shared}, Inv (X.blk s3 H3 scope ce fp) [] σ' H' s' → (∀ b ∈ fp, H' b = none) → ∀ b ∈ fp, FpOk (X.blk s3 H3 scope ce fp) [] H' b := fun {σ' H' s'} I' hn b hb =>
    ⟨hn b hb, (I'.ok.exf b hb).1, I'.ok.exfs b hb, .inl hb, fun x c e => (I'.ok.exf b hb).2 x c e, fun p hp => absurd (show p ∈ ([] : List (Addr × Obj)) ++ [] from hp) (by simp)⟩
  have loop : codeAny (model X.prog X.w) X.A (.compLoop (sc2 elt tg iter tg1 iter1 ifs ifs1 scope pos) 0 (.ref it) (.ref D) ce) (compPost (model X.prog X.w) X.A X.xe use Qf (.ref D) s3.heap.objs.size) s4 := by
    refine outer_loop (hs1 ce) (fun n s' => ∃ i H', Inv (X.blk s3 H3 scope ce fp) [] (wipe σ (own.map (·.2))) H' s' ∧ tn i s'.heap ∧ (∀ b ∈ fp, H' b = none) ∧ W i n H') ?_ m0 ⟨0, H3, I4, st4, none3, w0⟩
    rintro n s5 ⟨i, H5, I5, st5, n5, w5⟩
    rcases turn i n H5 w5 with ⟨stop, qq⟩ | ⟨go, Nx, hNx, step⟩
    · refine thnF (T.done (X.blk s3 H3 scope ce fp) rfl rfl rfl hc i [] s5 _ H5 (fun _ _ => False) I5 (own4 I5 n5) st5 stop) fun r s6 ⟨hr, I6⟩ => ?_
      subst hr
      have I7 : Inv X pins σ H5 s6 := I3.call' (ch := fp) I6.os I6.base I6.hok I6.bare fun b hb => ⟨(f3 b hb).1.2.2.2.1, (f3 b hb).1.2.1, (f3 b hb).1.2.2.2.2.1, (f3 b hb).1.2.2.2.2.2⟩
      have nC : H5 s3.heap.objs.size = none := by
        have z : H5 ce.locals = none := I6.free
        rw [cL] at z
        exact z
      obtain ⟨m, hn, _⟩ := I6.loc
      have hn : s6.heap.Ns ce.locals m := hn
      rw [cL] at hn
      exact hRR D s3.heap.objs.size s6 m H5 I7 qq hn (I3.fpOk (Nat.le_refl _) nC)
    · refine thnF (T.item (X.blk s3 H3 scope ce fp) rfl rfl rfl hc i [] s5 _ H5 (fun _ _ => False) I5 (own4 I5 n5) st5 go) fun r s6 ⟨u, hr, h6⟩ => ?_
      subst hr
      refine thnF h6 fun _ s7 ⟨x, H7, I7, r7, y7, st7, n7⟩ => ?_
      refine thnF (j1.run _ s7 _ H7 x u _ (I7.pinned (own4 I7 n7) (T.obj _ _ st7)) r7 (step x H7 y7)) fun _ s8 ⟨σ8, H8, I8, hw8, q8⟩ => ?_
      refine thnF (j2.run _ s8 σ8 H8 _ I8 q8) fun b s9 ⟨H9, I9, q9⟩ => ?_
      have over : ∀ {σ9 : L2.St} {s' : Shared} {H' : Hp}, Inv (X.blk s3 H3 scope ce fp) ([] ++ pinsAt fp s7.heap) σ9 H' s' → (wipe σ (own.map (·.2))).length = σ9.length → (∀ (j : Nat) v, (wipe σ (own.map (·.2)))[j]? = some (some v) → σ9[j]? = some (some v)) → Nx H' →
          ∃ m, m < n ∧ ∃ i H', Inv (X.blk s3 H3 scope ce fp) [] (wipe σ (own.map (·.2))) H' s' ∧ tn i s'.heap ∧ (∀ b ∈ fp, H' b = none) ∧ W i m H' := fun {σ9 s' H'} I' hl hk nx => by
        obtain ⟨m', hm, w'⟩ := hNx H' nx
        have pin : ∀ b ∈ fp, ∀ o, s7.heap.get? b = some o → s'.heap.get? b = some o ∧ H' b = none := fun b hb o z =>
          have y := I'.pin (b, o) (List.mem_append_right _ (List.mem_append_right _ (mem_pinsAt hb z)))
          ⟨y.1, y.2.1⟩
        refine ⟨m', hm, i + 1, H', (I'.unpinned (pins := [])).weak hl hk, T.keep _ _ _ st7 fun b hb o z => (pin b hb o z).1, fun b hb => ?_, w'⟩
        obtain ⟨o, z, _⟩ := T.obj _ _ st7 b hb
        exact (pin b hb o z).2
      have l8 : (wipe σ (own.map (·.2))).length = σ8.length := by rw [← hw8, wipe_length]
      have k8 : ∀ (j : Nat) v, (wipe σ (own.map (·.2)))[j]? = some (some v) → σ8[j]? = some (some v) := fun j v z => by
        rw [← hw8] at z
        exact (wipe_some z).1
      have k9 : ∀ (j : Nat) v, (wipe σ (own.map (·.2)))[j]? = some (some v) → (wipe σ8 vs1)[j]? = some (some v) := fun j v z => by
        rw [← hw8] at z
        obtain ⟨z1, z2⟩ := wipe_some z
        rw [wipe_out fun m => z2 (hv j m)]
        exact z1
      cases b with
      | false =>
        simp only [Bool.false_eq_true, if_false] at q9 ⊢
        exact over I9 l8 k8 q9
      | true =>
        simp only [if_true] at q9 ⊢
        refine thnF (j4.run _ s9 σ8 H9 _ I9 q9) fun xv s10 hx => thnF hx fun itv s11 h11 => ?_
        obtain ⟨it1, fp1, tn1, J1, H11, e1, I11, T1, st11, f11, W1, ⟨m1, w1⟩, turn1⟩ := h11
        subst e1
        have own1 : ∀ {H' : Hp}, (∀ b ∈ fp1, H' b = none) → ∀ b ∈ fp1, FpOk (X.blk s3 H3 scope ce fp) ([] ++ pinsAt fp s7.heap) H' b := fun hn b hb => ⟨hn b hb, (f11 b hb).2⟩
        have loop1 : codeAny (model X.prog X.w) X.A (.compLoop (sc2 elt tg iter tg1 iter1 ifs ifs1 scope pos) 1 (.ref it1) (.ref D) ce)
            (fun r s' => match r with
              | .ok _ => ∃ m, m < n ∧ ∃ i H', Inv (X.blk s3 H3 scope ce fp) [] (wipe σ (own.map (·.2))) H' s' ∧ tn i s'.heap ∧ (∀ b ∈ fp, H' b = none) ∧ W i m H'
              | .error _ => False) s11 := by
          refine inner_loop (fun k s' => ∃ j H', Inv (X.blk s3 H3 scope ce fp) ([] ++ pinsAt fp s7.heap) (wipe σ8 vs1) H' s' ∧ tn1 j s'.heap ∧ (∀ b ∈ fp1, H' b = none) ∧ W1 j k H') ?_ m1 ⟨0, H11, I11.weak (wipe_length _ _) (fun j v z => (wipe_some z).1), st11, fun b hb => (f11 b hb).1, w1⟩
          rintro k s12 ⟨j, H12, I12, st12, n12, w12⟩
          rcases turn1 j k H12 w12 with ⟨stop1, nx1⟩ | ⟨go1, Nx1, hNx1, step1⟩
          · refine thnF (T1.done (X.blk s3 H3 scope ce fp) rfl rfl rfl hc j _ s12 (wipe σ8 vs1) H12 (fun _ _ => False) I12 (own1 n12) st12 stop1) fun r s13 ⟨hr, I13⟩ => ?_
            subst hr
            exact over I13 (l8.trans (wipe_length σ8 vs1).symm) k9 nx1
          · refine thnF (T1.item (X.blk s3 H3 scope ce fp) rfl rfl rfl hc j _ s12 (wipe σ8 vs1) H12 (fun _ _ => False) I12 (own1 n12) st12 go1) fun r s13 ⟨u1, hr, h13⟩ => ?_
            subst hr
            refine thnF h13 fun _ s14 ⟨x1, H14, I14, r14, y14, st14, n14⟩ => ?_
            refine thnF (j5.run _ s14 (wipe σ8 vs1) H14 x1 u1 _ (I14.pinned (own1 n14) (T1.obj _ _ st14)) r14 (step1 x1 H14 y14)) fun _ s15 ⟨σ15, H15, I15, hw15, q15⟩ => ?_
            refine thnF (j6.run _ s15 σ15 H15 _ I15 q15) fun b1 s16 ⟨H16, I16, q16⟩ => ?_
            have over1 : ∀ {s' : Shared} {H' : Hp}, Inv (X.blk s3 H3 scope ce fp) (([] ++ pinsAt fp s7.heap) ++ pinsAt fp1 s14.heap) σ15 H' s' → Nx1 H' → ∃ m, m < k ∧ ∃ j H', Inv (X.blk s3 H3 scope ce fp) ([] ++ pinsAt fp s7.heap) (wipe σ8 vs1) H' s' ∧ tn1 j s'.heap ∧ (∀ b ∈ fp1, H' b = none) ∧ W1 j m H' := fun {s' H'} I' nx => by
              obtain ⟨m', hm, w'⟩ := hNx1 H' nx
              have pin : ∀ b ∈ fp1, ∀ o, s14.heap.get? b = some o → s'.heap.get? b = some o ∧ H' b = none := fun b hb o z =>
                have y := I'.pin (b, o) (List.mem_append_right _ (List.mem_append_right _ (mem_pinsAt hb z)))
                ⟨y.1, y.2.1⟩
              refine ⟨m', hm, j + 1, H', I'.unpinned.weak (by rw [← hw15, wipe_length]) (fun j v z => by rw [← hw15] at z; exact (wipe_some z).1), T1.keep _ _ _ st14 fun b hb o z => (pin b hb o z).1, fun b hb => ?_, w'⟩
              obtain ⟨o, z, _⟩ := T1.obj _ _ st14 b hb
              exact (pin b hb o z).2
            cases b1 with
            | false =>
              simp only [Bool.false_eq_true, if_false] at q16 ⊢
              exact over1 I16 q16
            | true =>
              simp only [if_true] at q16 ⊢
              refine thnF (j3.run _ s16 σ15 H16 _ I16 q16) fun z s17 ⟨yv, H17, I17, r17, H18, ad, nx⟩ => ?_
              exact kd.add (X.blk s3 H3 scope ce fp) rfl rfl _ _ _ _ _ _ _ _ _ _ I17 r17 ad fun s18 I18 => over1 I18 nx
        exact inner_start loop1 (T1.self X.A 0 _ _ _ st11 loop1)
  exact codeAny_compStart_set loop (T.self X.A 0 _ _ _ st4 loop)
theorem pe_sc2 {e0 : Addr → HO} {Add : Addr → V → Hp → Hp → Prop} {elt tg iter tg1 iter1 : Expr} {ifs ifs1 : List Expr} {scope : Scope} {own : List (PySem.Str × Nat)} {vs1 : List Nat} {pos : Pos} {wi wi1 : TI} {g g1 : TG} {tt tt1 : TT} {te : TE}
    (kd : SKind X.prog X.w e0 Add) (hc : X.calm = true) (hN : X.N.Nodup) (hi : PI X tg iter wi) (ok : BlkOk X.N X.env.scope scope own) (hv : ∀ i ∈ vs1, i ∈ own.map (·.2))
    (hg : ∀ (s : Shared) (H : Hp) (C : Addr) (cl : List (PySem.Str × Addr)) (fp : List Addr), PG (X.blk s H scope (compEnvC scope cl C X.env) fp) tg g)
    (ht : ∀ (s : Shared) (H : Hp) (C : Addr) (cl : List (PySem.Str × Addr)) (fp : List Addr), PTs (X.blk s H scope (compEnvC scope cl C X.env) fp) ifs tt)
    (hi1 : ∀ (s : Shared) (H : Hp) (C : Addr) (cl : List (PySem.Str × Addr)) (fp : List Addr), PI (X.blk s H scope (compEnvC scope cl C X.env) fp) tg1 iter1 wi1)
    (hg1 : ∀ (s : Shared) (H : Hp) (C : Addr) (cl : List (PySem.Str × Addr)) (fp : List Addr), PG (X.blk s H scope (compEnvC scope cl C X.env) fp) tg1 g1)
    (ht1 : ∀ (s : Shared) (H : Hp) (C : Addr) (cl : List (PySem.Str × Addr)) (fp : List Addr), PTs (X.blk s H scope (compEnvC scope cl C X.env) fp) ifs1 tt1)
    (he : ∀ (s : Shared) (H : Hp) (C : Addr) (cl : List (PySem.Str × Addr)) (fp : List Addr), PE (X.blk s H scope (compEnvC scope cl C X.env) fp) elt te)
    (hs : ∀ x, foldedSetIterable iter X.env x = pure x := by intro _; rfl) (hs1 : ∀ env x, foldedSetIterable iter1 env x = pure x := by intro _ _; rfl) :
    PE X (sc2 elt tg iter tg1 iter1 ifs ifs1 scope pos) (tSc2 e0 Add wi g tt wi1 g1 tt1 te (own.map (·.2)) vs1) := by
  refine ⟨fun pins s σ H Q I h => ?_⟩
  rw [eval_SetComp]
  refine sc2_core kd hc hN I hi ok hv hg ht he hi1 hg1 ht1 hs hs1 h fun D C s' m H' I' q hn f => ⟨m, hn, fun h'' sb => ?_⟩
  obtain ⟨f0, f1, f2, f3, f4, f5⟩ := f
  exact ⟨.ref D, H', I'.turned (t' := s'.toks) (fun b o hb z => (sb.2 b hb).trans z) f0 f1 f3 f4 f5, rfl, q⟩
end
/-- the kind of a set to which nothing is added: it stays the empty set of ints -/
theorem kind0 (P : Program) (w : World) : SKind P w (fun D => SetO w D (fun _ => false) 0) (fun _ _ _ _ => False) where
  new := fun H h => setO_new (by
    refine ⟨_, #[], 0, _, Heap.get?_push_size _ rfl, ⟨rfl, rfl, rfl⟩, rfl, (fun e he => by simp at he), (by simp), (fun k => by simp), (by decide), (by rfl), rfl, List.Pairwise.nil, ?_⟩
    show _ ∨ (!w.params.followText "set-order") = true
    cases w.params.followText "set-order"
    · exact .inr rfl
    · exact .inl rfl)
  add := fun _ _ _ _ _ _ _ _ _ _ _ _ _ _ _ ad _ => ad.elim
end Oh
/-! Dict comprehensions whose keys are tuples of ints and texts. -/
namespace Oh
open PySem PySem.Spec PyProof.Rows L2
section
variable {X : Cx}
theorem put_tuple {pins : List (Addr × Obj)} {σ : L2.St} {H : Hp} {s : Shared} {E : Value → Shared → Prop} {D b : Addr} {kvs : List (List L2.Key × V)} {k : List L2.Key} {v : V} {u r : Value} {Q : Unit → Shared → Prop} (hu : X.A.units < cLine) (I : Inv X pins σ H s) (hD : H D = some (.dT kvs))
    (hz : kvs.length < sizeLine) (ek : H b = some (.tup (k.map kV))) (ru : RelV (.ref b) u) (rv : RelV v r) (h : ∀ s', Inv X pins σ (upd H D (.dT (putK kvs k v))) s' → Q () s') : wpAny (model X.prog X.w) X.A (dictSet D u r) Q E s := by
  cases (show u = Value.ref b from ru)
  obtain ⟨z, hd, xs, rel, dd⟩ := dt_of I.hok hD
  have zx : xs.length ≤ sizeLine := by rw [← Paired.length rel]; exact z
  have zl : (putK kvs k v).length ≤ sizeLine := by have := length_putK kvs k v; omega
  refine wpAny_dictSet_heap (hsz := zx) (show (tupleKind (mixKind X.prog X.w)).room X.A from hu) (key_of I.hok ek) dd fun h' dd' hs => h _ ?_
  obtain ⟨q, es, ep, hq, h2, h3, h4, _, h5⟩ := dd'
  refine d_write I (by rw [hD]; exact True.intro) hs ⟨q, hq⟩ ⟨zl, hd, _, (rel.put k ek rv).keeps fun c ys ec => ?_, q, es, ep, hq, h2, h3, h4, h5⟩
  rw [upd_ne (ne_of ec hD (fun z => nomatch z))]
  exact ec
/-- {k: v for target in iter if ..}, the keys tuples of ints and texts -/
def tDcT (wi : TI) (g : TG) (tt : TT) (tk tv : TE) (vs : List Nat) : TE := fun σ H Q => wi σ H fun J H1 => ∀ D, H1 D = none → ∃ W : Nat → Nat → Hp → Prop, (∃ m, W 0 m (upd H1 D (.dT []))) ∧ ∀ i m H, W i m H →
  (J.stop i H ∧ Q (.ref D) H) ∨ (J.go i H ∧ ∃ Nx : Hp → Prop, (∀ H', Nx H' → ∃ m', m' < m ∧ W (i + 1) m' H') ∧ ∀ x H', J.yld i H x H' → g x (wipe σ vs) H' fun σ2 H2 => wipe σ2 vs = wipe σ vs ∧ tt σ2 H2 fun b H3 =>
    if b = true then tk σ2 H3 fun y H4 => tv σ2 H4 fun z H5 => ∃ (c : Addr) (kvs : List (List L2.Key × V)) (k : List L2.Key), y = .ref c ∧ H5 c = some (.tup (k.map kV)) ∧ H5 D = some (.dT kvs) ∧ kvs.length < sizeLine ∧ Nx (upd H5 D (.dT (putK kvs k z))) else Nx H3)
theorem dcT_core {pins : List (Addr × Obj)} {s : Shared} {σ : L2.St} {H : Hp} {Q : VK} {kx vx tg iter : Expr} {ifs : List Expr} {scope : Scope} {own : List (PySem.Str × Nat)} {pos pos' : Pos} {wi : TI} {g : TG} {tt : TT} {tk tv : TE} {use : Option (Value → Sem Unit)} {Qf : Value → Shared → Prop}
    (hu : X.A.units < cLine) (hc : X.calm = true) (hN : X.N.Nodup) (I : Inv X pins σ H s) (hi : PI X tg iter wi) (ok : BlkOk X.N X.env.scope scope own)
    (hg : ∀ (s : Shared) (H : Hp) (C : Addr) (cl : List (PySem.Str × Addr)) (fp : List Addr), PG (X.blk s H scope (compEnvC scope cl C X.env) fp) tg g)
    (ht : ∀ (s : Shared) (H : Hp) (C : Addr) (cl : List (PySem.Str × Addr)) (fp : List Addr), PTs (X.blk s H scope (compEnvC scope cl C X.env) fp) ifs tt)
    (hk : ∀ (s : Shared) (H : Hp) (C : Addr) (cl : List (PySem.Str × Addr)) (fp : List Addr), PE (X.blk s H scope (compEnvC scope cl C X.env) fp) kx tk)
    (he : ∀ (s : Shared) (H : Hp) (C : Addr) (cl : List (PySem.Str × Addr)) (fp : List Addr), PE (X.blk s H scope (compEnvC scope cl C X.env) fp) vx tv)
    (hs : ∀ x, foldedSetIterable iter X.env x = pure x) (h : tDcT wi g tt tk tv (own.map (·.2)) σ H Q)
    (hRR : ∀ D C s' m H', Inv X pins σ H' s' → Q (.ref D) H' → s'.heap.Ns C m → FpOk X pins H' C → compPost (model X.prog X.w) X.A X.xe use Qf (.ref D) C (.ok .next) s') :
    wpAny (model X.prog X.w) X.A (comprehension (.DictComp kx vx [⟨tg, iter, ifs, 0⟩] scope pos) scope X.env pos' newDict false (eval iter X.env) use) Qf X.xe s := by
  have closes : ∀ y ∈ scope.names, y.2 = .free → ∃ c, X.env.cells.lookup y.1 = some c := fun y hy e => (ok.free y hy e).elim (fun k => I.ok.has _ (.inl k)) fun k => I.ok.has _ (.inr k)
  refine wpAny_comprehension_free (use := use) rfl hs (closure_ok closes) ok.kind (fun y hy e => by rw [ok.uniq y hy, e]) (thn (hi.run pins s σ H _ I h) fun xv s1 hx => thn hx fun itv s2 h2 => ?_)
  obtain ⟨it, fp, tn, J, H2, e, I2, T, st2, f2, q⟩ := h2
  subst e
  refine wpAny_newObj_type (newEnv_comp ?_)
  generalize hD : s2.heap.objs.size = D
  obtain ⟨W, ⟨m0, w0⟩, turn⟩ := q D (I2.hok.fresh (Nat.le_of_eq hD))
  generalize hs3 : ({ s2 with heap := s2.heap.push { cls := .type "dict", data := .dict #[] } } : Shared) = s3
  have h3 : s3.heap = s2.heap.push { cls := .type "dict", data := .dict #[] } := by rw [← hs3]
  have I3 : Inv X pins σ (upd H2 D (.dT [])) s3 := by
    rw [← hs3]
    refine I2.laid (t' := s2.toks) (fun b o z => Heap.get?_push_of_some _ z) (Nat.le_of_eq hD) ?_
    rw [← hD]
    exact dt_empty s2.heap I2.big
  have f3 : ∀ b ∈ fp, FpOk X pins (upd H2 D (.dT [])) b ∧ b < s3.heap.objs.size := fun b hb => by
    obtain ⟨o, eo, _⟩ := T.obj _ _ st2 b hb
    have lt : b < s2.heap.objs.size := Heap.lt_size eo
    refine ⟨⟨?_, (f2 b hb).2⟩, by rw [h3, Heap.size_push]; exact Nat.lt_succ_of_lt lt⟩
    rw [upd_ne (by rw [← hD]; exact Nat.ne_of_lt lt)]
    exact (f2 b hb).1
  have st3 : tn 0 s3.heap := T.keep _ _ _ st2 fun b _ o z => by rw [h3]; exact Heap.get?_push_of_some _ z
  have I4 := block_start I3 ok hN f3
  have j1 := hg s3 (upd H2 D (.dT [])) s3.heap.objs.size (cellsFrom (s3.heap.objs.size + 1) scope.names (cloFrom X.env.cells scope.names [])) fp
  have j2 := ht s3 (upd H2 D (.dT [])) s3.heap.objs.size (cellsFrom (s3.heap.objs.size + 1) scope.names (cloFrom X.env.cells scope.names [])) fp
  have j3 := hk s3 (upd H2 D (.dT [])) s3.heap.objs.size (cellsFrom (s3.heap.objs.size + 1) scope.names (cloFrom X.env.cells scope.names [])) fp
  have j4 := he s3 (upd H2 D (.dT [])) s3.heap.objs.size (cellsFrom (s3.heap.objs.size + 1) scope.names (cloFrom X.env.cells scope.names [])) fp
  show codeAny _ _ (.compStart (.DictComp kx vx [⟨tg, iter, ifs, 0⟩] scope pos) 0 (.ref it) (.ref D) (compEnvC scope (cellsFrom (s3.heap.objs.size + 1) scope.names (cloFrom X.env.cells scope.names [])) s3.heap.objs.size X.env)) (compPost (model X.prog X.w) X.A X.xe use Qf (.ref D) s3.heap.objs.size) { s3 with heap := pushCells (s3.heap.push { cls := .type "dict", data := .dict #[] }) scope.names }
  have none3 : ∀ b ∈ fp, (upd H2 D (.dT [])) b = none := fun b hb => (f3 b hb).1.1
  generalize hce : compEnvC scope (cellsFrom (s3.heap.objs.size + 1) scope.names (cloFrom X.env.cells scope.names [])) s3.heap.objs.size X.env = ce at I4 j1 j2 j3 j4 ⊢
  have cL : ce.locals = s3.heap.objs.size := by subst hce; rfl
  generalize hH3 : upd H2 D (.dT []) = H3 at I3 I4 j1 j2 j3 j4 w0 none3 f3
  generalize hs4 : ({ s3 with heap := pushCells (s3.heap.push { cls := .type "dict", data := .dict #[] }) scope.names } : Shared) = s4 at I4 ⊢
  have st4 : tn 0 s4.heap := T.keep _ _ _ st3 fun b _ o z => by rw [← hs4]; exact pushCells_keeps _ _ _ _ (Heap.get?_push_of_some _ z)
  have own4 : ∀ {σ' : L2.St} {H' : Hp} {s' : Shared}, Inv (X.blk s3 H3 scope ce fp) [] σ' H' s' → (∀ b ∈ fp, H' b = none) → ∀ b ∈ fp, FpOk (X.blk s3 H3 scope ce fp) [] H' b := fun {σ' H' s'} I' hn b hb =>
    ⟨hn b hb, (I'.ok.exf b hb).1, I'.ok.exfs b hb, .inl hb, fun x c e => (I'.ok.exf b hb).2 x c e, fun p hp => absurd (show p ∈ ([] : List (Addr × Obj)) ++ [] from hp) (by simp)⟩
  have loop : codeAny (model X.prog X.w) X.A (.compLoop (.DictComp kx vx [⟨tg, iter, ifs, 0⟩] scope pos) 0 (.ref it) (.ref D) ce) (compPost (model X.prog X.w) X.A X.xe use Qf (.ref D) s3.heap.objs.size) s4 := by
    refine compLoop_anyD (fun n s' => ∃ i H', Inv (X.blk s3 H3 scope ce fp) [] (wipe σ (own.map (·.2))) H' s' ∧ tn i s'.heap ∧ (∀ b ∈ fp, H' b = none) ∧ W i n H') ?_ m0 ⟨0, H3, I4, st4, none3, w0⟩
    rintro n s5 ⟨i, H5, I5, st5, n5, w5⟩
    rcases turn i n H5 w5 with ⟨stop, qq⟩ | ⟨go, Nx, hNx, step⟩
    · refine thnF (T.done (X.blk s3 H3 scope ce fp) rfl rfl rfl hc i [] s5 _ H5 (fun _ _ => False) I5 (own4 I5 n5) st5 stop) fun r s6 ⟨hr, I6⟩ => ?_
      subst hr
      have I7 : Inv X pins σ H5 s6 := I3.call' (ch := fp) I6.os I6.base I6.hok I6.bare fun b hb => ⟨(f3 b hb).1.2.2.2.1, (f3 b hb).1.2.1, (f3 b hb).1.2.2.2.2.1, (f3 b hb).1.2.2.2.2.2⟩
      have nC : H5 s3.heap.objs.size = none := by
        have z : H5 ce.locals = none := I6.free
        rw [cL] at z
        exact z
      obtain ⟨m, hn, _⟩ := I6.loc
      have hn : s6.heap.Ns ce.locals m := hn
      rw [cL] at hn
      exact hRR D s3.heap.objs.size s6 m H5 I7 qq hn (I3.fpOk (Nat.le_refl _) nC)
    · refine thnF (T.item (X.blk s3 H3 scope ce fp) rfl rfl rfl hc i [] s5 _ H5 (fun _ _ => False) I5 (own4 I5 n5) st5 go) fun r s6 ⟨u, hr, h6⟩ => ?_
      subst hr
      refine thnF h6 fun _ s7 ⟨x, H7, I7, r7, y7, st7, n7⟩ => ?_
      refine thnF (j1.run _ s7 _ H7 x u _ (I7.pinned (own4 I7 n7) (T.obj _ _ st7)) r7 (step x H7 y7)) fun _ s8 ⟨σ8, H8, I8, hw8, q8⟩ => ?_
      refine thnF (j2.run _ s8 σ8 H8 _ I8 q8) fun b s9 ⟨H9, I9, q9⟩ => ?_
      have over : ∀ {s' : Shared} {H' : Hp}, Inv (X.blk s3 H3 scope ce fp) ([] ++ pinsAt fp s7.heap) σ8 H' s' → Nx H' → ∃ m, m < n ∧ ∃ i H', Inv (X.blk s3 H3 scope ce fp) [] (wipe σ (own.map (·.2))) H' s' ∧ tn i s'.heap ∧ (∀ b ∈ fp, H' b = none) ∧ W i m H' := fun {s' H'} I' nx => by
        obtain ⟨m', hm, w'⟩ := hNx H' nx
        have pin : ∀ b ∈ fp, ∀ o, s7.heap.get? b = some o → s'.heap.get? b = some o ∧ H' b = none := fun b hb o z =>
          have y := I'.pin (b, o) (List.mem_append_right _ (List.mem_append_right _ (mem_pinsAt hb z)))
          ⟨y.1, y.2.1⟩
        refine ⟨m', hm, i + 1, H', (I'.unpinned (pins := [])).weak (by rw [← hw8, wipe_length]) (fun j v z => by rw [← hw8] at z; exact (wipe_some z).1), T.keep _ _ _ st7 fun b hb o z => (pin b hb o z).1, fun b hb => ?_, w'⟩
        obtain ⟨o, z, _⟩ := T.obj _ _ st7 b hb
        exact (pin b hb o z).2
      cases b with
      | false =>
        simp only [Bool.false_eq_true, if_false] at q9 ⊢
        exact over I9 q9
      | true =>
        simp only [if_true] at q9 ⊢
        refine thnF (j3.run _ s9 σ8 H9 _ I9 q9) fun z s10 ⟨yk, H10, I10, r10, q10⟩ => ?_
        refine thnF (j4.run _ s10 σ8 H10 _ I10 q10) fun z2 s11 ⟨yv, H11, I11, r11, c, kvs, k, ek, hc11, hD11, hz11, nx⟩ => ?_
        subst ek
        exact put_tuple (X := X.blk s3 H3 scope ce fp) hu I11 hD11 hz11 hc11 r10 r11 fun s12 I12 => over I12 nx
  exact codeAny_compStart_dict loop (T.self X.A 0 _ _ _ st4 loop)
theorem pe_dcT {kx vx tg iter : Expr} {ifs : List Expr} {scope : Scope} {own : List (PySem.Str × Nat)} {pos : Pos} {wi : TI} {g : TG} {tt : TT} {tk tv : TE} (hu : X.A.units < cLine) (hc : X.calm = true) (hN : X.N.Nodup) (hi : PI X tg iter wi) (ok : BlkOk X.N X.env.scope scope own)
    (hg : ∀ (s : Shared) (H : Hp) (C : Addr) (cl : List (PySem.Str × Addr)) (fp : List Addr), PG (X.blk s H scope (compEnvC scope cl C X.env) fp) tg g)
    (ht : ∀ (s : Shared) (H : Hp) (C : Addr) (cl : List (PySem.Str × Addr)) (fp : List Addr), PTs (X.blk s H scope (compEnvC scope cl C X.env) fp) ifs tt)
    (hk : ∀ (s : Shared) (H : Hp) (C : Addr) (cl : List (PySem.Str × Addr)) (fp : List Addr), PE (X.blk s H scope (compEnvC scope cl C X.env) fp) kx tk)
    (he : ∀ (s : Shared) (H : Hp) (C : Addr) (cl : List (PySem.Str × Addr)) (fp : List Addr), PE (X.blk s H scope (compEnvC scope cl C X.env) fp) vx tv) (hs : ∀ x, foldedSetIterable iter X.env x = pure x := by intro _; rfl) :
    PE X (.DictComp kx vx [⟨tg, iter, ifs, 0⟩] scope pos) (tDcT wi g tt tk tv (own.map (·.2))) := by
  refine ⟨fun pins s σ H Q I h => ?_⟩
  rw [arm_eval_DictComp]
  refine dcT_core hu hc hN I hi ok hg ht hk he hs h fun D C s' m H' I' q hn f => ⟨m, hn, fun h'' sb => ?_⟩
  obtain ⟨f0, f1, f2, f3, f4, f5⟩ := f
  exact ⟨.ref D, H', I'.turned (t' := s'.toks) (fun b o hb z => (sb.2 b hb).trans z) f0 f1 f3 f4 f5, rfl, q⟩
end
end Oh
/-! enumerate(a tuple) -/
namespace PySem
open Sem (wp)
open AutoSeq1 (wpAny_loadPart')
theorem enumT_new (l : Addr) (items : Array Value) (n : Nat) (dct : Option Addr) (sl : Array (Option Value)) :
    Meets (Builtin.«enumerate.__new__» ⟨[.type "enumerate", .ref l], []⟩) (fun _ R s => s.heap.get? l = some { cls := .type "tuple", dict := dct, data := .seq items n, slots := sl } ∧
      R (.ok (.ret (.ref (s.heap.push { cls := .type "tuple_iterator", data := .fields #[.ref l, .int 0 0] }).objs.size)))
        { s with heap := (s.heap.push { cls := .type "tuple_iterator", data := .fields #[.ref l, .int 0 0] }).push { cls := .type "enumerate", data := .fields #[.none, .bool false, .ref s.heap.objs.size, rawInt 0, .none, .none] } }) :=
  .of_wp fun prog w A R s h => by
    obtain ⟨hp, g, d, tk, os⟩ := s
    obtain ⟨hl, h⟩ := h
    have is1 := sub_enumerate
    have tt : Heap.IsTuple (Shared.heap ⟨hp, g, d, tk, os⟩) l items := ⟨_, hl, rfl, n, rfl⟩
    wp_walk using wpAny_loadPart' hl
    refine wpAny_stack_any fun st => wpAny_pure ?_
    split
    · rename_i c _ _ _ _ _
      cases (c == Value.type "enumerate")
      all_goals
        wp_walk using wpAny_loadPart' hl, wpAny_pyIter_tuple tt
        exact ⟨_, rfl, h⟩
    · wp_walk using wpAny_loadPart' hl, wpAny_pyIter_tuple tt
      exact ⟨_, rfl, h⟩
theorem enumT_call {prog : Program} {w : World} {A : Around} {E : Value → Shared → Prop} {s : Shared} {l : Addr} {items : Array Value} {Q : Value → Shared → Prop} (tt : s.heap.IsTuple l items)
    (h : ∀ h', IsEnum h' (s.heap.objs.size + 1) s.heap.objs.size 0 .none → h'.IsTupleIter s.heap.objs.size l 0 → h'.objs.size = s.heap.objs.size + 2 → (∀ b o, s.heap.get? b = some o → h'.get? b = some o) → Q (.ref (s.heap.objs.size + 1)) { s with heap := h' }) :
    wpAny (model prog w) A (call (.type "enumerate") [.ref l]) Q E s := by
  obtain ⟨⟨c, dct, dt, sl⟩, hl, hc, n, hd⟩ := tt
  replace hc : c = .type "tuple" := hc
  replace hd : dt = .seq items n := hd
  subst hc hd
  refine callType_new F.called_enumerate (by decide) (F.typeCall_enumerate_1 _) (F.newCall_enumerate_1 _) (fun obj => F.args_object_init_2 obj _) F.entry_enumerate_new (enumT_new l items n dct sl) ⟨hl, ?_⟩
  have z : (s.heap.push { cls := .type "tuple_iterator", data := .fields #[.ref l, .int 0 0] }).objs.size = s.heap.objs.size + 1 := Heap.size_push ..
  show _ ∧ _
  rw [z]
  have e1 : IsEnum ((s.heap.push { cls := .type "tuple_iterator", data := .fields #[.ref l, .int 0 0] }).push { cls := .type "enumerate", data := .fields #[.none, .bool false, .ref s.heap.objs.size, rawInt 0, .none, .none] }) (s.heap.objs.size + 1) s.heap.objs.size 0 .none := by
    have q := Heap.get?_push_size (s.heap.push { cls := .type "tuple_iterator", data := .fields #[.ref l, .int 0 0] }) (o := { cls := .type "enumerate", data := .fields #[.none, .bool false, .ref s.heap.objs.size, rawInt 0, .none, .none] }) rfl
    rw [z] at q
    exact q
  exact ⟨⟨_, e1, rfl⟩, h _ e1 ⟨_, Heap.get?_push_of_some _ (Heap.get?_push_size _ rfl), rfl, rfl⟩ (by rw [Heap.size_push, z]) fun b o x => Heap.get?_push_of_some _ (Heap.get?_push_of_some _ x)⟩
end PySem
namespace L2
open PySem PySem.Spec PyProof.Rows
/-- the tuple at a, each item in a new pair with its place -/
def IteT (K : PySem.W.Frag) (a : Addr) : It :=
  ⟨fun i H => ∃ (xs : List V) (x : V), SqT K H a xs ∧ xs[i]? = some x, fun i H v H' => ∃ T x, v = .ref T ∧ H T = none ∧ H' = upd H T (.tup [.int (i : Nat), x]) ∧ ∀ xs, SqT K H a xs → xs[i]? = some x, fun i H => ∃ xs : List V, SqT K H a xs ∧ xs.length ≤ i⟩
theorem turn_enumT {P : Program} {w : World} {K : PySem.W.Frag} {elts : List Expr} {kk : Nat} {tpos : Pos} (a e it : Addr) :
    Turn P w K (.Tuple elts kk tpos) (IteT K a) [e, it] e (fun i h => (∃ old, IsEnum h e it ((i : Nat) : Int) old) ∧ h.IsTupleIter it a i ∧ e ≠ it) where
  mem := by simp
  obj := fun i h st b hb => by
    obtain ⟨⟨old, he⟩, ⟨o, ho, hc, hd⟩, _⟩ := st
    rcases (show b = e ∨ b = it by simpa using hb) with z | z
    · rw [z]; exact ⟨_, he, fun v q => nomatch q⟩
    · rw [z]; exact ⟨o, ho, fun v q => by rw [hd] at q; cases q⟩
  keep := fun i h h' st k => let ⟨⟨old, he⟩, hi, hne⟩ := st; ⟨⟨old, k e (by simp) _ he⟩, hi.at fun o q => k it (by simp) o q, hne⟩
  item := by
    intro X hP hw hK hc i pins s σ H E I hf st hg
    subst hP hw hK
    obtain ⟨⟨old, he⟩, hit, hne⟩ := st
    obtain ⟨xs, x, hq, hx⟩ := hg
    obtain ⟨its, rv, p, hz⟩ := I.tuple hq
    obtain ⟨u, hu, ru⟩ := rv.get hx
    have hel : e < s.heap.objs.size := Heap.lt_size he
    have hil : it < s.heap.objs.size := by obtain ⟨_, q, _⟩ := hit; exact Heap.lt_size q
    have tt : s.heap.IsTuple a its.toArray := p
    have hhd : X.A.in1.handled = none := I.ok.hd hc
    have ane : a ≠ it := fun z => by
      obtain ⟨o, q1, q2, _⟩ := hit
      obtain ⟨o', r1, r2, _⟩ := tt
      rw [z, q1] at r1
      cases r1
      rw [q2] at r2
      exact absurd (Value.type.inj r2) (by decide)
    have hea : e ≠ a := fun z => by
      obtain ⟨o', r1, r2, _⟩ := tt
      have h1 : s.heap.get? e = _ := he
      rw [z, r1] at h1
      cases h1
      exact absurd (Value.type.inj r2) (by decide)
    have hi : i < its.toArray.size := by
      obtain ⟨h1, _⟩ := List.getElem?_eq_some_iff.mp hu
      simpa using h1
    refine wpAny_pyNext_enum_itemD (Draws.tuple hhd it a ane its.toArray) he ⟨hit, tt⟩ hi hne (by simp [hne, hea]) fun y h' tk hy ho st1 hT hsz hk => ?_
    have ey : y = u := Option.some.inj (hy.symm.trans (by simpa using hu))
    subst ey
    refine ⟨_, rfl, wpAny_letOwnedTupleGo_enum (s := { s with heap := h', toks := tk + 1 }) ho fun h'' he' sb => ?_⟩
    have hT2 : h''.get? s.heap.objs.size = some { cls := .type "tuple", data := .seq #[.int i tk, y] } := (sb.2 _ (Nat.ne_of_gt hel)).trans hT
    have new : ObjOk X.prog X.w (upd H s.heap.objs.size (.tup [.int (i : Nat), x])) h'' s.heap.objs.size (.tup [.int (i : Nat), x]) :=
      ⟨by show 2 ≤ sizeLine; decide, [.int i tk, y], .cons ⟨_, rfl⟩ (.cons ru .nil), ⟨_, hT2, rfl, _, rfl⟩⟩
    have I1 : Inv X pins σ (upd H s.heap.objs.size (.tup [.int (i : Nat), x])) { s with heap := h'', toks := tk + 1 } :=
      I.turnedNew (ch := [e, it]) (fun b ob hb q => (sb.2 b (fun z => hb (by simp [z]))).trans (hk b ob (fun z => hb (by simp [z])) (fun z => hb (by simp [z])) q)) hf (Nat.le_refl _) new
    refine ⟨.ref s.heap.objs.size, _, I1, rfl, ⟨_, x, rfl, I.hok.fresh (Nat.le_refl _), rfl, fun ys hy => by rw [I.tuple_inj hy hq]; exact hx⟩, ⟨⟨y, ?_⟩, st1.1.at fun o q => (sb.2 it (Ne.symm hne)).trans q, hne⟩, fun b hb => ?_⟩
    · rw [show ((i + 1 : Nat) : Int) = (i : Int) + 1 by omega]
      exact he'
    · have lt : b < s.heap.objs.size := by
        rcases (show b = e ∨ b = it by simpa using hb) with z | z
        · rw [z]; exact hel
        · rw [z]; exact hil
      rw [upd_ne (Nat.ne_of_lt lt)]
      exact (hf b hb).1
  done := by
    intro X hP hw hK hc i pins s σ H E I hf st hg
    subst hP hw hK
    obtain ⟨⟨old, he⟩, hit, hne⟩ := st
    obtain ⟨xs, hq, hx⟩ := hg
    obtain ⟨its, rv, p, hz⟩ := I.tuple hq
    obtain ⟨f0, f1, f2, f3, f4, f5⟩ := hf it (by simp)
    have tt : s.heap.IsTuple a its.toArray := p
    have hhd : X.A.in1.handled = none := I.ok.hd hc
    have hT : s.TypeIs (.ref e) "enumerate" := ⟨_, he, rfl⟩
    have gone : its.toArray[i]? = none := by
      have hl := rv.length
      simp
      omega
    unfold pyNext
    refine wpAny_bind (wpAny_attempt (wpAny_callSpecial?_slot (name := Str.ofString "__next__") hT F.slot_enumerate_next (wpAny_call_entry F.slot_enumerate_next hT F.entry_enumerate_next ?_ (F.args_enumerate_next_1 _))))
    show wpAny _ _ (field (.ref e) 2 >>= _) _ _ _
    refine wpAny_bind (wpAny_field he rfl (x := .ref it) rfl ?_)
    refine wpAny_bind (wpAny_nextOf_tuple_end hhd hit tt gone fun h' x he' hx' => ?_)
    obtain ⟨o, ho, hcl⟩ := hx'
    refine wpAny_bind (wpAny_isInstance (T := "StopIteration") (b := true) ⟨o, ho, hcl⟩ isSubtype_stop ?_)
    exact wpAny_pure ⟨rfl, I.turned (t' := s.toks) (fun b o hb q => he' b o hb q) f0 f1 f3 f4 f5⟩
  self := fun A i s Q E st h => let ⟨⟨_, he⟩, _⟩ := st; wpAny_pyIter_enum he h
def iEnumT (K : PySem.W.Frag) (ta : TA) : TI := fun σ H R => ta σ H fun vs H1 => ∃ a xs, vs = [.ref a] ∧ SqT K H1 a xs ∧ R (IteT K a) H1
theorem pi_enumT {X : Cx} {e : Expr} {ta : TA} {p pos tpos : Pos} {elts : List Expr} {kk : Nat} (hg : Gl X "enumerate") (hm : X.mg "enumerate" = none) (ha : PA X [e] ta) (hs : starEach [e] X.env = [(false, eval e X.env)] := by rfl) :
    PI X (.Tuple elts kk tpos) (.Call (.Name "enumerate" p) [e] [] pos) (iEnumT X.K ta) := by
  refine ⟨fun pins s σ H R I h => ?_⟩
  refine Call_ (ld_blt I hg hm boot_enumerate (PyProof.Rows.callWith_type1 (thn (ha.run pos pins s σ H _ I h) fun us s1 ⟨vs, H1, I1, r1, a, xs, ex, hq, q⟩ => ?_) hs rfl))
  subst ex
  cases r1 with
  | cons r rr =>
    cases rr
    cases r
    obtain ⟨its, rv, p', hz⟩ := I1.tuple hq
    have tt : s1.heap.IsTuple a its.toArray := p'
    refine enumT_call tt fun h' he hit hsz hk => wpAny_pyIter_enum he ?_
    refine ⟨s1.heap.objs.size + 1, [s1.heap.objs.size + 1, s1.heap.objs.size], _, _, H1, rfl, I1.kept (t' := s1.toks) hk, turn_enumT a (s1.heap.objs.size + 1) s1.heap.objs.size, ⟨⟨.none, he⟩, hit, Nat.succ_ne_self _⟩, fun b hb => ?_, q⟩
    have le : s1.heap.objs.size ≤ b := by
      rcases (show b = s1.heap.objs.size + 1 ∨ b = s1.heap.objs.size by simpa using hb) with z | z
      · rw [z]; exact Nat.le_add_right _ _
      · rw [z]; exact Nat.le_refl _
    exact I1.fpOk le (I1.hok.fresh le)
end L2
namespace Oh
open PySem PySem.Spec PyProof.Rows L2
/-- a text that is, or is not, a key of a written dict -/
def rKdNotIn (K : PySem.W.Frag) (w : World) : R2 := fun x y H Q => ∃ p z, x = .str z ∧ y = .ref p ∧ ((∃ v, KDct K w p z v ∧ (p == sysModules) = false ∧ Q (.bl false) H) ∨ (KMiss K w p z ∧ Q (.bl true) H))
theorem op_kdNotIn {X : Cx} : OpR X (compareOp .NotIn) (rKdNotIn X.K X.w) := by
  intro pins s σ H x y v u Q I rx ry h
  obtain ⟨p, z, rfl, rfl, h⟩ := h
  obtain ⟨t, rfl⟩ := (show ∃ t, v = Value.str z t from rx)
  obtain rfl : u = Value.ref p := ry
  rcases h with ⟨r, kd, lo, q⟩ | ⟨⟨es, n, hl, hk, lo, hm⟩, q⟩
  · obtain ⟨es, n, u0, hl, hk, e, ru⟩ := kd
    have hm := PySem.W.mapOf_K (prog := X.prog) (w := X.w) I.kIn hl hk
    refine wpAny_notIn_of (strKind_is X.prog X.w z t) lo hm ?_
    rw [PySem.W.find_K hl e]
    exact ⟨.bl false, H, I.tok _, rfl, q⟩
  · have hm' := PySem.W.mapOf_K (prog := X.prog) (w := X.w) I.kIn hl hk
    refine wpAny_notIn_of (strKind_is X.prog X.w z t) lo hm' ?_
    rw [PySem.W.find_K hl hm]
    exact ⟨.bl true, H, I.tok _, rfl, q⟩
end Oh
namespace Oh
open PySem PySem.Spec PyProof.Rows L2
abbrev sIsBlock : Stmt := top 39
abbrev sHeadOf : Stmt := top 40
abbrev sIsStatement : Stmt := top 42
abbrev sIsWord : Stmt := top 51
abbrev sBlocksOf : Stmt := top 53
abbrev sFirstWrong : Stmt := top 58
abbrev sIsWrong : Stmt := top 59
abbrev sDeals : Stmt := top 60
abbrev sIsSound : Stmt := top 61
abbrev sCount : Stmt := top 64
abbrev sLaid : Stmt := top 65
abbrev sCheck : Stmt := top 69
theorem pe_never {X : Cx} {e : Expr} : PE X e (fun _ _ _ => False) := ⟨fun _ _ _ _ _ _ h => h.elim⟩
theorem walk_enumT {K : PySem.W.Frag} {a : Addr} {xs : List V} : Walk (IteT K a) xs.length (fun H => SqT K H a xs) (YPair (fun i => some (.int (i : Nat))) (fun i => xs[i]?)) := by
  refine ⟨fun i _ hi q => ⟨xs, xs[i], q, by simp [hi]⟩, fun _ q => ⟨xs, q, Nat.le_refl _⟩, fun i H v H' _ q y => ?_⟩
  obtain ⟨T, x, h1, h2, h3, h4⟩ := y
  exact ⟨T, .int (i : Nat), x, h1, h2, h3, rfl, h4 xs q⟩
/-- the statement ("home",), at S -/
def HomeS (H : Hp) (S : Addr) : Prop := H S = some (.tup [.str "home"])
/-- the block of it alone, at B -/
def HomeB (H : Hp) (B S : Addr) : Prop := H B = some (.tup [.ref S]) ∧ HomeS H S
theorem HomeB.keep {H H' : Hp} {B S : Addr} (h : HomeB H B S) (s : Same H H') : HomeB H' B S := ⟨s _ _ h.1, s _ _ h.2⟩
/-- is_block: of a tuple, of a list -/
def spIsBlock : Sp := fun vs H Q _ => ∃ p, vs = [.ref p] ∧ ((∃ xs, H p = some (.tup xs) ∧ xs.length ≤ 12 ∧ Q (.bl true) H) ∨ ∃ xs, H p = some (.lst xs) ∧ Q (.bl false) H)
structure TxtP (mg : Str → Option Value) : Prop extends TxtI mg where
  longest : ∃ t, mg "LONGEST_BLOCK" = some (.int 12 t)
  deepest : ∃ t, mg "DEEPEST_BLOCK" = some (.int 12 t)
  most : ∃ t, mg "MOST_STATEMENTS" = some (.int 6000 t)
  sum : mg "sum" = none
  enum : mg "enumerate" = none
section
variable {P : Program} {w : World} {K : PySem.W.Frag} {mg : Str → Option Value} {base : Heap}
theorem scIsBlock : FnScope ["value"] ["value"] (defScope sIsBlock) := ⟨rfl, rfl, rfl, by decide +kernel, rfl, by decide +kernel, by decide +kernel⟩
theorem ok_isBlock {f : Addr} {fd : FuncData} (F : Fun K "is_block" "is_block" sIsBlock f fd) (T : TxtP mg) : FnOk P w K mg base CX0 1 f fd ["value"] spIsBlock := by
  refine F.ok scIsBlock (fun vs H Q E h => ?_) (fun cdv A outer s H vs Q E hr h => ?_)
  · obtain ⟨p, rfl, _⟩ := h
    rfl
  · obtain ⟨p, rfl, h⟩ := h
    obtain ⟨t, ml⟩ := T.longest
    refine ⟨_, pss_one (ps_ret (pe_and (pe_isi (pv 0) mono_var T.isi T.tuple bb_tuple) (pe_one (pe_cmpR op_le (pe_callB call_len_seq (by rfl) T.len boot_len (pa_cons (pv 0) pa_nil)) (pe_glob (v := .int 12) (by rfl) ml ⟨t, rfl⟩) (nomark _))))), ?_⟩
    rcases h with ⟨xs, hp, hl, q⟩ | ⟨xs, hp, q⟩
    · refine ⟨_, rfl, _, _, .base (.tup hp), kitYes (by decide +kernel), _, rfl, iteT ⟨_, rfl, p, xs, rfl, .inr (SqT.of hp), _, _, rfl, rfl, ?_⟩⟩
      show Q (.bl (decide ((xs.length : Int) ≤ 12))) H
      rw [show decide ((xs.length : Int) ≤ 12) = true from decide_eq_true (by omega)]
      exact q
    · exact ⟨_, rfl, _, _, .base (.lst hp), kitNo (by decide +kernel), _, rfl, iteF q⟩
def spHeadOf : Sp := fun vs H Q _ => ∃ S, vs = [.ref S] ∧ HomeS H S ∧ Q (.str "home") H
theorem scHeadOf : FnScope ["value"] ["value"] (defScope sHeadOf) := ⟨rfl, rfl, rfl, by decide +kernel, rfl, by decide +kernel, by decide +kernel⟩
theorem ok_headOf {f : Addr} {fd : FuncData} (F : Fun K "head_of" "head_of" sHeadOf f fd) (T : TxtP mg) : FnOk P w K mg base CX0 1 f fd ["value"] spHeadOf := by
  refine F.ok scHeadOf (fun vs H Q E h => ?_) (fun cdv A outer s H vs Q E hr h => ?_)
  · obtain ⟨p, rfl, _⟩ := h
    rfl
  · obtain ⟨S, rfl, hS, k⟩ := h
    have hS : H S = some (.tup [.str "home"]) := hS
    refine ⟨_, pss_cons (ps_if (pw_and (pt_val (pe_isi (pv 0) mono_var T.isi T.tuple bb_tuple)) (pw_and (pt_cmpR op_gt (pe_callB call_len_seq (by rfl) T.len boot_len (pa_cons (pv 0) pa_nil)) pe_int (nomark _))
        (pw_and1 (pt_val (pe_isi (pe_ix ix_tup (pv 0) pe_int (fun _ _ => rfl)) (fun σ H Q Q' wk ⟨v, e, p, xs, i, y, a, b, c, d, q⟩ => ⟨v, e, p, xs, i, y, a, b, c, d, wk _ _ q⟩) T.isi T.str bb_str))))).pt (pss_one (ps_ret (pe_ix ix_tup (pv 0) pe_int (fun _ _ => rfl)))) pss_nil)
      (pss_one (ps_ret pe_str)), ?_⟩
    refine ⟨_, rfl, _, _, .base (.tup hS), kitYes (by decide +kernel), _, rfl, iteT ?_⟩
    refine ⟨_, rfl, S, _, rfl, .inr (SqT.of hS), _, _, rfl, rfl, _, rfl, ite2 (fun _ => ?_) (fun z => absurd (by decide) z)⟩
    refine ⟨_, rfl, S, _, _, _, rfl, rfl, SqT.of hS, rfl, _, _, .base (.str _), kitYes (by decide +kernel), _, rfl, iteT ?_⟩
    exact ⟨_, rfl, S, _, _, _, rfl, rfl, SqT.of hS, rfl, k⟩
def spTrueS : Sp := fun vs H Q _ => ∃ S, vs = [.ref S] ∧ HomeS H S ∧ Q (.bl true) H
theorem scIsWord : FnScope ["value"] ["value"] (defScope sIsWord) := ⟨rfl, rfl, rfl, by decide +kernel, rfl, by decide +kernel, by decide +kernel⟩
theorem ok_isWord {f : Addr} {fd : FuncData} (F : Fun K "_is_word" "_is_word" sIsWord f fd) (T : TxtP mg) : FnOk P w K mg base CX0 1 f fd ["value"] spTrueS := by
  refine F.ok scIsWord (fun vs H Q E h => ?_) (fun cdv A outer s H vs Q E hr h => ?_)
  · obtain ⟨p, rfl, _⟩ := h
    rfl
  · obtain ⟨S, rfl, hS, k⟩ := h
    refine ⟨_, pss_one (ps_ret (pe_cmpR op_eq (pe_callB call_len_seq (by rfl) T.len boot_len (pa_cons (pv 0) pa_nil)) pe_int (nomark _))), ?_⟩
    exact ⟨_, rfl, S, _, rfl, .inr (SqT.of hS), rfl, k⟩
theorem scIsStatement : FnScope ["value", "head", "check"] ["value"] (defScope sIsStatement) := ⟨rfl, rfl, rfl, by decide +kernel, rfl, by decide +kernel, by decide +kernel⟩
theorem ok_isStatement {f fH fW ck : Addr} {fd fdH fdW : FuncData} (F : Fun K "is_statement" "is_statement" sIsStatement f fd) (T : TxtP mg) (FH : Fun K "head_of" "head_of" sHeadOf fH fdH) (bH : Binds K fdH ["value"] []) (mH : mg "head_of" = some (.ref fH))
    (FW : Fun K "_is_word" "_is_word" sIsWord fW fdW) (bW : Binds K fdW ["value"] []) (mC : mg "CHECKS" = some (.ref ck)) (kd : KDct K w ck "home" (.ref fW)) (lo : (ck == sysModules) = false) : FnOk P w K mg base CX0 2 f fd ["value"] spTrueS := by
  have GH : FnOk P w K mg base CX0 1 fH fdH ["value"] spHeadOf := ok_headOf FH T
  have GW : FnOk P w K mg base CX0 1 fW fdW ["value"] spTrueS := ok_isWord FW T
  refine F.ok scIsStatement (fun vs H Q E h => ?_) (fun cdv A outer s H vs Q E hr h => ?_)
  · obtain ⟨p, rfl, _⟩ := h
    rfl
  · obtain ⟨S, rfl, hS, k⟩ := h
    refine ⟨_, pss_cons (ps_set (i := 1) scIsStatement.nd rfl (Or.inl rfl) (pe_call GH hr (by rfl) mH FH.kp bH .nil pass0 (pa_cons (pv 0) pa_nil)))
      (pss_cons (ps_if (pt_cmpR op_kdNotIn (pv 1) (pe_glob (v := .ref ck) (by rfl) mC rfl) (by rfl)) (pss_one (ps_ret pe_bl)) pss_nil)
      (pss_cons (ps_set (i := 2) scIsStatement.nd rfl (Or.inl rfl) (pe_ix ix_kdict (pe_glob (v := .ref ck) (by rfl) mC rfl) (pv 1) (fun _ _ => rfl)))
      (pss_one (ps_ret (pe_callL (i := 2) GW hr rfl (Or.inl rfl) FW.kp bW .nil pass0 (pa_cons (pv 0) pa_nil)))))), ?_⟩
    refine ⟨_, rfl, S, rfl, hS, ?_⟩
    refine ⟨_, rfl, ck, _, rfl, rfl, .inl ⟨_, kd, lo, _, rfl, iteF ?_⟩⟩
    refine ⟨_, rfl, ck, _, _, rfl, rfl, kd, ?_⟩
    exact ⟨rfl, _, rfl, S, rfl, hS, k⟩
def spBlocksOf : Sp := fun vs H Q _ => ∃ S, vs = [.ref S] ∧ HomeS H S ∧ ∀ p H', Same H H' → H p = none → H' p = some (.lst []) → Q (.ref p) H'
theorem scBlocksOf : FnScope ["statement", "head", "row"] ["statement"] (defScope sBlocksOf) := ⟨rfl, rfl, rfl, by decide +kernel, rfl, by decide +kernel, by decide +kernel⟩
theorem ok_blocksOf {f : Addr} {fd : FuncData} (F : Fun K "blocks_of" "blocks_of" sBlocksOf f fd) (T : TxtP mg) : FnOk P w K mg base CX0 1 f fd ["statement"] spBlocksOf := by
  refine F.ok scBlocksOf (fun vs H Q E h => ?_) (fun cdv A outer s H vs Q E hr h => ?_)
  · obtain ⟨p, rfl, _⟩ := h
    rfl
  · obtain ⟨S, rfl, hS, k⟩ := h
    refine ⟨_, pss_cons (ps_set (i := 1) scBlocksOf.nd rfl (Or.inl rfl) (pe_ix ix_tup (pv 0) pe_int (fun _ _ => rfl)))
      (pss_cons (ps_if (pt_cmpR op_eq (pv 1) pe_str (nomark _)) pss_never pss_nil)
      (pss_cons (ps_if (pt_cmpR op_eq (pv 1) pe_str (nomark _)) pss_never pss_nil)
      (pss_cons (ps_if (pt_cmpR op_eq (pv 1) pe_str (nomark _)) pss_never pss_nil)
      (pss_cons (ps_if (pt_cmpR op_eq (pv 1) pe_str (nomark _)) pss_never pss_nil)
      (pss_one (ps_ret (pe_lst pa_nil))))))), ?_⟩
    refine ⟨_, rfl, S, _, _, _, rfl, rfl, SqT.of hS, rfl, ?_⟩
    refine ⟨_, rfl, rfl, _, rfl, ite2 (fun z => absurd z (by decide)) fun _ => ?_⟩
    refine ⟨_, rfl, rfl, _, rfl, ite2 (fun z => absurd z (by decide)) fun _ => ?_⟩
    refine ⟨_, rfl, rfl, _, rfl, ite2 (fun z => absurd z (by decide)) fun _ => ?_⟩
    refine ⟨_, rfl, rfl, _, rfl, ite2 (fun z => absurd z (by decide)) fun _ => ?_⟩
    exact ⟨by decide, fun p np => k p _ (Same.new np) np upd_same⟩
def spSound (n : Nat) (b : Bool) : Sp := fun vs H Q _ => ∃ S, vs = [.ref S, .int 1] ++ (if n = 3 then [.bl false] else []) ∧ HomeS H S ∧ ∀ H', Same H H' → Q (.bl b) H'
theorem scIsSound : FnScope ["item", "depth"] ["item", "depth"] (defScope sIsSound) := ⟨rfl, rfl, rfl, by decide +kernel, rfl, by decide +kernel, by decide +kernel⟩
theorem ok_isSound {f fS : Addr} {fd fdS : FuncData} (F : Fun K "_is_sound" "_is_sound" sIsSound f fd) (T : TxtP mg) (GS : FnOk P w K mg base CX0 2 fS fdS ["value"] spTrueS) (kS : PySem.W.keepIn K (.ref fS) = true) (bS : Binds K fdS ["value"] []) (mS : mg "is_statement" = some (.ref fS)) :
    FnOk P w K mg base CX0 3 f fd ["item", "depth"] (spSound 2 true) := by
  refine F.ok scIsSound (fun vs H Q E h => ?_) (fun cdv A outer s H vs Q E hr h => ?_)
  · obtain ⟨p, rfl, _⟩ := h
    rfl
  · obtain ⟨S, rfl, hS, k⟩ := h
    obtain ⟨t, md⟩ := T.deepest
    refine ⟨_, pss_one (ps_ret (pe_and (pe_call GS hr (by rfl) mS kS bS .nil pass0 (pa_cons (pv 0) pa_nil)) (pe_one (pe_or (pe_cmpR op_lt (pv 1) (pe_glob (v := .int 12) (by rfl) md ⟨t, rfl⟩) (nomark _)) (pe_one pe_never))))), ?_⟩
    refine ⟨_, rfl, S, rfl, hS, _, rfl, iteT ⟨_, rfl, _, _, rfl, rfl, _, rfl, iteT ?_⟩⟩
    exact k H (Same.refl H)
theorem scIsWrong : FnScope ["item", "depth", "in_repeat"] ["item", "depth", "in_repeat"] (defScope sIsWrong) := ⟨rfl, rfl, rfl, by decide +kernel, rfl, by decide +kernel, by decide +kernel⟩
theorem ok_isWrong {f fS : Addr} {fd fdS : FuncData} (F : Fun K "_is_wrong" "_is_wrong" sIsWrong f fd) (T : TxtP mg) (GS : FnOk P w K mg base CX0 3 fS fdS ["item", "depth"] (spSound 2 true)) (kS : PySem.W.keepIn K (.ref fS) = true) (bS : Binds K fdS ["item", "depth"] []) (mS : mg "_is_sound" = some (.ref fS)) :
    FnOk P w K mg base CX0 4 f fd ["item", "depth", "in_repeat"] (spSound 3 false) := by
  refine F.ok scIsWrong (fun vs H Q E h => ?_) (fun cdv A outer s H vs Q E hr h => ?_)
  · obtain ⟨p, rfl, _⟩ := h
    rfl
  · obtain ⟨S, rfl, hS, k⟩ := h
    refine ⟨_, pss_cons (ps_if (pt_not (pt_val (pe_call GS hr (by rfl) mS kS bS .nil pass0 (pa_cons (pv 0) (pa_cons (pv 1) pa_nil))))) (pss_one (ps_ret pe_bl)) pss_nil)
      (pss_cons (ps_if (pt_cmpR op_eq (pe_ix ix_tup (pv 0) pe_int (fun _ _ => rfl)) pe_str (nomark _)) pss_never pss_nil)
      (pss_one (ps_ret (pe_and (pe_cmpR op_eq (pe_ix ix_tup (pv 0) pe_int (fun _ _ => rfl)) pe_str (nomark _)) (pe_one pe_never))))), ?_⟩
    refine ⟨_, rfl, _, rfl, S, rfl, hS, fun H1 s1 => ⟨_, rfl, iteF ?_⟩⟩
    have h1 : H1 S = some (.tup [.str "home"]) := s1 _ _ hS
    refine ⟨_, rfl, S, _, _, _, rfl, rfl, SqT.of h1, rfl, rfl, _, rfl, ite2 (fun z => absurd z (by decide)) fun _ => ?_⟩
    refine ⟨_, rfl, S, _, _, _, rfl, rfl, SqT.of h1, rfl, rfl, _, rfl, ite2 (fun z => absurd z (by decide)) fun _ => ?_⟩
    exact k H1 s1
end
end Oh
namespace Oh
open PySem PySem.Spec PyProof.Rows L2
/-- an empty tuple -/
def Tup0 (H : Hp) (p : Addr) : Prop := H p = some (.tup [])
def spFirst : Sp := fun vs H Q _ => ∃ B S p, vs = [.ref B, .ref p, .int 1, .bl false] ∧ HomeB H B S ∧ H p = some (.tup []) ∧ ∀ H', Same H H' → Q .non H'
def spCount : Sp := fun vs H Q _ => ∃ B S, vs = [.ref B] ∧ HomeB H B S ∧ ∀ H', Same H H' → Q (.int 1) H'
/-- the rows of the layout: one row, of the path (0,), the statement, none -/
def LaidAt (H : Hp) (L R T S : Addr) : Prop := H L = some (.lst [.ref R]) ∧ H R = some (.tup [.ref T, .ref S, .non]) ∧ H T = some (.tup [.int 0])
def spLaid : Sp := fun vs H Q _ => ∃ B S p, vs = [.ref B, .ref p, .non, .non] ∧ HomeB H B S ∧ H p = some (.tup []) ∧ ∀ L R T H', Same H H' → LaidAt H' L R T S → H L = none → H R = none → H T = none → Q (.ref L) H'
section
variable {P : Program} {w : World} {K : PySem.W.Frag} {mg : Str → Option Value} {base : Heap}
abbrev nFw : List Str := ["block", "path", "depth", "in_repeat", "index", "item", "here", "number", "inner", "repeated", "wrong"]
theorem scFirst : FnScope nFw ["block", "path", "depth", "in_repeat"] (defScope sFirstWrong) := ⟨rfl, rfl, rfl, by decide +kernel, rfl, by decide +kernel, by decide +kernel⟩
theorem ok_first {f fW fB : Addr} {fd fdW fdB : FuncData} (F : Fun K "first_wrong" "first_wrong" sFirstWrong f fd) (T : TxtP mg)
    (GW : FnOk P w K mg base CX0 4 fW fdW ["item", "depth", "in_repeat"] (spSound 3 false)) (kW : PySem.W.keepIn K (.ref fW) = true) (bW : Binds K fdW ["item", "depth", "in_repeat"] []) (mW : mg "_is_wrong" = some (.ref fW))
    (GB : FnOk P w K mg base CX0 1 fB fdB ["statement"] spBlocksOf) (kB : PySem.W.keepIn K (.ref fB) = true) (bB : Binds K fdB ["statement"] []) (mB : mg "blocks_of" = some (.ref fB)) :
    FnOk P w K mg base CX0 5 f fd ["block", "path", "depth", "in_repeat"] spFirst := by
  refine F.ok scFirst (fun vs H Q E h => ?_) (fun cdv A outer s H vs Q E hr h => ?_)
  · obtain ⟨B, S, p, rfl, _⟩ := h
    rfl
  · obtain ⟨B, S, p, rfl, hB, hp, k⟩ := h
    have hr1 : Room 1 _ := hr.mono (by decide)
    refine ⟨_, pss_cons (ps_for PassesOwn.never rfl (pi_enumT (by rfl) T.enum (pa_cons (pv 0) pa_nil)) (pg_tup rfl (pgs_cons (pg_name (i := 4) scFirst.nd rfl (Or.inl rfl)) (pgs_cons (pg_name (i := 5) scFirst.nd rfl (Or.inl rfl)) pgs_nil)))
        (pss_cons (ps_set (i := 6) scFirst.nd rfl (Or.inl rfl) (pe_op op_catA (pv 1) (pe_tup (pa_cons (pv 4) pa_nil))))
        (pss_cons (ps_if (pt_val (pe_call GW hr (by rfl) mW kW bW .nil pass0 (pa_cons (pv 5) (pa_cons (pv 2) (pa_cons (pv 3) pa_nil))))) (pss_one (ps_ret (pv 6))) pss_nil)
        (pss_one (ps_for PassesOwn.never rfl (pi_enum (by rfl) T.enum (pa_cons (pe_call GB hr1 (by rfl) mB kB bB .nil pass0 (pa_cons (pv 5) pa_nil)) pa_nil)) (pg_tup rfl (pgs_cons (pg_name (i := 7) scFirst.nd rfl (Or.inl rfl)) (pgs_cons (pg_name (i := 8) scFirst.nd rfl (Or.inl rfl)) pgs_nil))) pss_never)))))
      (pss_one (ps_ret pe_non)), ?_⟩
    refine ⟨_, rfl, B, _, rfl, SqT.of hB.1, for_it (walk_enumT (xs := [V.ref S])) (fun i σ H' => ∃ x, σ = [some (.ref B), some (.ref p), some (.int 1), some (.bl false)] ++ x ∧ x.length = 7 ∧ Same H H') ⟨_, rfl, rfl, Same.refl H⟩ ?_ ?_ ?_⟩
    · rintro i σ H' _ ⟨x, rfl, _, hS⟩
      exact SqT.of (hS _ _ hB.1)
    · rintro i x σ H1 H2 hi ⟨z, rfl, hz, hS⟩ ⟨Tp, x1, x2, rfl, nT, rfl, e1, e2⟩
      obtain rfl : i = 0 := by have : i < 1 := hi; omega
      obtain rfl := Option.some.inj e1
      obtain rfl := Option.some.inj e2
      match z, hz with
      | [z0, z1, z2, z3, z4, z5, z6], _ =>
      have s2 : Same H (upd H1 Tp (.tup [.int (0 : Nat), .ref S])) := hS.trans (Same.new nT)
      refine ⟨Tp, _, rfl, SqT.of upd_same, rfl, _, _, rfl, _, _, rfl, rfl, ?_⟩
      refine ⟨_, rfl, _, rfl, by decide, fun q nq => ⟨p, q, [], _, rfl, rfl, SqT.of ((Same.new nq) _ _ (s2 _ _ hp)), SqT.of upd_same, by decide, fun _ => ?_, fun z => absurd rfl z, fun z => absurd rfl z⟩⟩
      have s3 := s2.trans (Same.new (o := .tup [.int (0 : Nat)]) nq)
      have hS3 : HomeS _ S := (hB.keep s3).2
      refine ⟨_, rfl, _, rfl, _, rfl, S, rfl, hS3, fun H3 h3 => ⟨_, rfl, iteF ?_⟩⟩
      refine ⟨_, rfl, S, rfl, h3 _ _ hS3, fun L H4 h4 nL eL => ⟨L, [], rfl, SqL.of eL, for_it (walk_enum (xs := [])) (fun i σ H' => ∃ x, σ = [some (.ref B), some (.ref p), some (.int 1), some (.bl false)] ++ x ∧ x.length = 7 ∧ Same H H' ∧ H' L = some (.lst [])) ⟨_, rfl, rfl, s3.trans (h3.trans h4), eL⟩ ?_ ?_ ?_⟩⟩
      · rintro i σ H' _ ⟨x, _, _, _, e⟩
        exact SqL.of e
      · intro i x σ H' H'' hi
        exact absurd hi (Nat.not_lt_zero i)
      · rintro σ H' ⟨x, ex, hx, hS', _⟩
        exact ⟨x, ex, hx, hS'⟩
    · rintro σ H' ⟨x, rfl, hx, hS⟩
      exact k H' hS
abbrev nCo : List Str := ["block", "item", "inner"]
theorem boot_sumO : bootBuiltins "sum" = some (.builtin "sum") := by decide +kernel
theorem scCount : FnScope nCo ["block"] (defScope sCount) := ⟨rfl, rfl, rfl, by decide +kernel, rfl, by decide +kernel, by decide +kernel⟩
theorem ok_count {f fB : Addr} {fd fdB : FuncData} (F : Fun K "count_statements" "count_statements" sCount f fd) (T : TxtP mg)
    (GB : FnOk P w K mg base CX0 1 fB fdB ["statement"] spBlocksOf) (kB : PySem.W.keepIn K (.ref fB) = true) (bB : Binds K fdB ["statement"] []) (mB : mg "blocks_of" = some (.ref fB)) :
    FnOk P w K mg base CX0 4 f fd ["block"] spCount := by
  refine F.ok scCount (fun vs H Q E h => ?_) (fun cdv A outer s H vs Q E hr h => ?_)
  · obtain ⟨B, S, rfl, _⟩ := h
    rfl
  · obtain ⟨B, S, rfl, hB, k⟩ := h
    have hr1 : Room 1 _ := hr.mono (by decide)
    refine ⟨_, pss_one (ps_ret (pe_callB (cr_sum rfl) (by rfl) T.sum boot_sumO (pa_cons
        (pe_lc (own := [("item", 1)]) (g := gName 1) (tt := tYes) rfl scCount.nd (pi_tup (pv 0)) (blkOk_by (N := nCo) (sc := defScope sCount) (by decide +kernel)) (fun _ _ _ _ _ => pg_name (i := 1) scCount.nd rfl (Or.inl rfl)) (fun _ _ _ _ _ => pts_nil)
          (fun s1 H1 C1 cl1 fp1 => pe_op op_add pe_int (pe_callB (r := rSum K) (cr_sum rfl) (by rfl) T.sum boot_sumO (by exact (pa_cons
             (pe_lc (wi := iList K (tCall spBlocksOf [] E0 (tCons (tVar 1) tNil))) (own := [("inner", 2)]) (g := gName 2) (tt := tYes) (te := fun _ _ _ => False) rfl scCount.nd
               (by exact (pi_list (pe_call GB hr1 (by rfl) mB kB bB .nil pass0 (pa_cons (pv 1) pa_nil))))
               (blkOk_by (N := nCo) (by rfl))
               (fun _ _ _ _ _ => pg_name (i := 2) scCount.nd rfl (Or.inl rfl)) (fun _ _ _ _ _ => pts_nil) (fun _ _ _ _ _ => pe_never)) pa_nil))))) pa_nil))), ?_⟩
    refine ⟨_, rfl, B, rfl, ⟨_, SqT.of hB.1⟩, fun D hD => lc_it (walk_tup (xs := [V.ref S])) (fun i H' => Same H H' ∧ H' D = some (.lst (List.replicate i (V.int 1)))) ⟨Same.new hD, upd_same⟩ (fun i H' _ q => SqT.of (q.1 _ _ hB.1)) ?_ ?_⟩
    · rintro i x H1 H2 hi ⟨s1, d1⟩ ⟨e2, ex⟩
      subst e2
      obtain rfl : i = 0 := by have : i < 1 := hi; omega
      obtain rfl := Option.some.inj ex
      refine ⟨rfl, _, rfl, S, rfl, s1 _ _ hB.2, fun L H4 h4 nL eL => ⟨L, rfl, ⟨[], SqL.of eL⟩, fun D2 hD2 => lc_it (te := fun _ _ _ => False) (g := gName 2) (tt := tYes) (vs := [2]) (walk_list (xs := [])) (fun i H' => Same H2 H' ∧ H' L = some (.lst []) ∧ H' D2 = some (.lst [])) ⟨h4.trans (Same.new hD2), (Same.new hD2) _ _ eL, upd_same⟩ (fun i H' _ q => SqL.of q.2.1) ?_ ?_⟩⟩
      · intro i x Ha Hb hi
        exact absurd hi (Nat.not_lt_zero i)
      · rintro H5 ⟨s5, _, d5⟩
        refine ⟨D2, [], rfl, SqL.of d5, _, _, rfl, rfl, _, s5 _ _ d1, (by show 0 < sizeLine; decide), ?_, upd_same⟩
        intro b o e
        rw [upd_ne (ne_of_none e hD)]
        exact s5 _ _ (s1 _ _ e)
    · rintro H5 ⟨s5, d5⟩
      exact ⟨D, [1], rfl, SqL.of d5, k H5 s5⟩
abbrev nLa : List Str := ["block", "path", "behind", "outside", "rows", "index", "statement", "here", "follower", "number", "inner", "start"]
theorem scLaid : FnScope nLa ["block", "path", "behind", "outside"] (defScope sLaid) := ⟨rfl, rfl, rfl, by decide +kernel, rfl, by decide +kernel, by decide +kernel⟩
theorem ok_laid {f fB : Addr} {fd fdB : FuncData} (F : Fun K "laid_out" "laid_out" sLaid f fd) (T : TxtP mg)
    (GB : FnOk P w K mg base CX0 1 fB fdB ["statement"] spBlocksOf) (kB : PySem.W.keepIn K (.ref fB) = true) (bB : Binds K fdB ["statement"] []) (mB : mg "blocks_of" = some (.ref fB)) :
    FnOk P w K mg base CX0 2 f fd ["block", "path", "behind", "outside"] spLaid := by
  refine F.ok scLaid (fun vs H Q E h => ?_) (fun cdv A outer s H vs Q E hr h => ?_)
  · obtain ⟨B, S, p, rfl, _⟩ := h
    rfl
  · obtain ⟨B, S, p, rfl, hB, hp, k⟩ := h
    have hr1 : Room 1 _ := hr.mono (by decide)
    refine ⟨_, pss_cons (ps_set (i := 4) scLaid.nd rfl (Or.inl rfl) (pe_lst pa_nil))
      (pss_cons (ps_for PassesOwn.never rfl (pi_enumT (by rfl) T.enum (pa_cons (pv 0) pa_nil)) (pg_tup rfl (pgs_cons (pg_name (i := 5) scLaid.nd rfl (Or.inl rfl)) (pgs_cons (pg_name (i := 6) scLaid.nd rfl (Or.inl rfl)) pgs_nil)))
        (pss_cons (ps_set (i := 7) scLaid.nd rfl (Or.inl rfl) (pe_op op_catA (pv 1) (pe_tup (pa_cons (pv 5) pa_nil))))
        (pss_cons (ps_set (i := 8) scLaid.nd rfl (Or.inl rfl) (pe_ifExp (pt_cmpR op_lt (pe_op op_add (pv 5) pe_int) (pe_callB call_len_seq (by rfl) T.len boot_len (pa_cons (pv 0) pa_nil)) (nomark _)) pe_never (pv 2)))
        (pss_cons (ps_expr (pe_bm PySem.F.plainAttrs_list PySem.F.slot_list_append PySem.F.type_list_append mt_append (pv 4)
            (pa_cons (pe_tup (pa_cons (pv 7) (pa_cons (pv 6) (pa_cons (pe_ifExp (pt_cmpR op_eq (pe_ix ix_tup (pv 6) pe_int (fun _ _ => rfl)) pe_str (nomark _)) (pv 3) (pv 8)) pa_nil)))) pa_nil)))
        (pss_one (ps_for PassesOwn.never rfl (pi_enum (by rfl) T.enum (pa_cons (pe_call GB hr1 (by rfl) mB kB bB .nil pass0 (pa_cons (pv 6) pa_nil)) pa_nil)) (pg_tup rfl (pgs_cons (pg_name (i := 9) scLaid.nd rfl (Or.inl rfl)) (pgs_cons (pg_name (i := 10) scLaid.nd rfl (Or.inl rfl)) pgs_nil))) pss_never))))))
      (pss_one (ps_ret (pv 4)))), ?_⟩
    refine ⟨by decide, fun L nL => ?_⟩
    refine ⟨_, rfl, B, _, rfl, SqT.of ((Same.new nL) _ _ hB.1), for_it (walk_enumT (xs := [V.ref S])) (fun i σ H' => ∃ x, σ = [some (.ref B), some (.ref p), some .non, some .non, some (.ref L)] ++ x ∧ x.length = 7 ∧ Same H H' ∧ (i = 0 → H' L = some (.lst [])) ∧ (i = 1 → ∃ R T, LaidAt H' L R T S ∧ H R = none ∧ H T = none))
      ⟨_, rfl, rfl, Same.new nL, fun _ => upd_same, fun z => absurd z (by decide)⟩ ?_ ?_ ?_⟩
    · rintro i σ H' _ ⟨x, ex, _, hS, _⟩
      exact SqT.of (hS _ _ hB.1)
    · rintro i x σ H1 H2 hi ⟨z, ez, hz, hS, hL, _⟩ ⟨Tp, x1, x2, rfl, nT, rfl, e1, e2⟩
      obtain rfl : i = 0 := by have : i < 1 := hi; omega
      obtain rfl := Option.some.inj e1
      obtain rfl := Option.some.inj e2
      subst ez
      have hL := hL rfl
      match z, hz with
      | [z0, z1, z2, z3, z4, z5, z6], _ =>
      have s2 : Same H1 (upd H1 Tp (.tup [.int (0 : Nat), .ref S])) := Same.new nT
      refine ⟨Tp, _, rfl, SqT.of upd_same, rfl, _, _, rfl, _, _, rfl, rfl, ?_⟩
      refine ⟨_, rfl, _, rfl, by decide, fun q nq => ⟨p, q, [], _, rfl, rfl, SqT.of ((Same.new nq) _ _ (s2 _ _ (hS _ _ hp))), SqT.of upd_same, by decide, fun _ => ?_, fun z => absurd rfl z, fun z => absurd rfl z⟩⟩
      have s3 := s2.trans (Same.new (o := .tup [.int (0 : Nat)]) nq)
      have nq' : H q = none := (hS.trans s2).free nq
      have hB3 := (hB.keep (hS.trans s3))
      refine ⟨_, rfl, _, _, rfl, rfl, _, rfl, B, _, rfl, .inr (SqT.of hB3.1), _, _, rfl, rfl, _, rfl, ite2 (fun z => by simp at z) fun _ => ?_⟩
      refine ⟨_, rfl, ?_⟩
      refine ⟨_, rfl, .inl ⟨rfl, _, SqL.of (s3 _ _ hL)⟩, ?_⟩
      refine ⟨_, rfl, _, rfl, _, rfl, S, _, _, _, rfl, rfl, SqT.of hB3.2, rfl, rfl, _, rfl, ite2 (fun z => absurd z (by decide)) fun _ => ?_⟩
      refine ⟨_, rfl, (by show 3 ≤ sizeLine; decide), fun R nR => ?_⟩
      have s4 := s3.trans (Same.new (o := .tup [.ref q, .ref S, .non]) nR)
      have nR' : H R = none := (hS.trans s3).free nR
      have hL4 := s4 _ _ hL
      have hq4 : upd (upd (upd H1 Tp (.tup [.int (0 : Nat), .ref S])) q (.tup [.int (0 : Nat)])) R (.tup [.ref q, .ref S, .non]) q = some (.tup [.int (0 : Nat)]) := (Same.new nR) _ _ upd_same
      have hR4 : upd (upd (upd H1 Tp (.tup [.int (0 : Nat), .ref S])) q (.tup [.int (0 : Nat)])) R (.tup [.ref q, .ref S, .non]) R = some (.tup [.ref q, .ref S, .non]) := upd_same
      have qL : q ≠ L := fun z => by subst z; cases hq4.symm.trans hL4
      have RL : R ≠ L := fun z => by subst z; cases hR4.symm.trans hL4
      refine ⟨L, [], _, rfl, rfl, hL4, (by show 0 < sizeLine; decide), ?_⟩
      have s5 : Same H (upd (upd (upd (upd H1 Tp (.tup [.int (0 : Nat), .ref S])) q (.tup [.int (0 : Nat)])) R (.tup [.ref q, .ref S, .non])) L (.lst [.ref R])) := fun b o e => by
        rw [upd_ne (ne_of_none e nL)]
        exact hS.trans s4 _ _ e
      have la : LaidAt (upd (upd (upd (upd H1 Tp (.tup [.int (0 : Nat), .ref S])) q (.tup [.int (0 : Nat)])) R (.tup [.ref q, .ref S, .non])) L (.lst [.ref R])) L R q S :=
        ⟨upd_same, by rw [upd_ne RL]; exact hR4, by rw [upd_ne qL]; exact hq4⟩
      refine ⟨_, rfl, S, rfl, s5 _ _ hB.2, fun L2 H5 h5 nL2 eL2 => ⟨L2, [], rfl, SqL.of eL2, for_it (walk_enum (xs := [])) (fun i σ H' => (∃ x, σ = [some (.ref B), some (.ref p), some .non, some .non, some (.ref L)] ++ x ∧ x.length = 7) ∧ Same H H' ∧ LaidAt H' L R q S ∧ H' L2 = some (.lst []))
        ⟨⟨_, rfl, rfl⟩, s5.trans h5, ⟨h5 _ _ la.1, h5 _ _ la.2.1, h5 _ _ la.2.2⟩, eL2⟩ ?_ ?_ ?_⟩⟩
      · rintro i σ H' _ ⟨_, _, _, e⟩
        exact SqL.of e
      · intro i x σ H' H'' hi
        exact absurd hi (Nat.not_lt_zero i)
      · rintro σ H' ⟨⟨x, ex, hx⟩, hS', la', _⟩
        exact ⟨x, ex, hx, hS', fun z => absurd z (by decide), fun _ => ⟨R, q, la', nR', nq'⟩⟩
    · rintro σ H' ⟨x, ex, hx, hS, _, hR⟩
      obtain ⟨R, T', hA, nR, nT⟩ := hR rfl
      subst ex
      exact ⟨_, rfl, k L R T' H' hS hA nL nR nT⟩
end
end Oh
namespace Oh
open PySem PySem.Spec PyProof.Rows L2
abbrev sNamesOf : Stmt := top 54
abbrev sPortsOf : Stmt := top 56
abbrev sRInit : Stmt := inClass (top 68) 0
abbrev sREq : Stmt := inClass (top 68) 1
section
variable {P : Program} {w : World} {K : PySem.W.Frag} {mg : Str → Option Value} {base : Heap}
theorem scNamesOf : FnScope ["statement", "head", "row"] ["statement"] (defScope sNamesOf) := ⟨rfl, rfl, rfl, by decide +kernel, rfl, by decide +kernel, by decide +kernel⟩
theorem ok_namesOf {f : Addr} {fd : FuncData} (F : Fun K "names_of" "names_of" sNamesOf f fd) : FnOk P w K mg base CX0 1 f fd ["statement"] spBlocksOf := by
  refine F.ok scNamesOf (fun vs H Q E h => ?_) (fun cdv A outer s H vs Q E hr h => ?_)
  · obtain ⟨p, rfl, _⟩ := h
    rfl
  · obtain ⟨S, rfl, hS, k⟩ := h
    refine ⟨_, pss_cons (ps_set (i := 1) scNamesOf.nd rfl (Or.inl rfl) (pe_ix ix_tup (pv 0) pe_int (fun _ _ => rfl)))
      (pss_cons (ps_if (pt_cmpR op_eq (pv 1) pe_str (nomark _)) pss_never pss_nil)
      (pss_cons (ps_if (pt_cmpR op_eq (pv 1) pe_str (nomark _)) pss_never pss_nil)
      (pss_cons (ps_if (pt_cmpR op_eq (pv 1) pe_str (nomark _)) pss_never pss_nil)
      (pss_cons (ps_if (pt_cmpR op_eq (pv 1) pe_str (nomark _)) pss_never pss_nil)
      (pss_cons (ps_if (pt_cmpR op_eq (pv 1) pe_str (nomark _)) pss_never pss_nil)
      (pss_one (ps_ret (pe_lst pa_nil)))))))), ?_⟩
    refine ⟨_, rfl, S, _, _, _, rfl, rfl, SqT.of hS, rfl, ?_⟩
    refine ⟨_, rfl, rfl, _, rfl, ite2 (fun z => absurd z (by decide)) fun _ => ?_⟩
    refine ⟨_, rfl, rfl, _, rfl, ite2 (fun z => absurd z (by decide)) fun _ => ?_⟩
    refine ⟨_, rfl, rfl, _, rfl, ite2 (fun z => absurd z (by decide)) fun _ => ?_⟩
    refine ⟨_, rfl, rfl, _, rfl, ite2 (fun z => absurd z (by decide)) fun _ => ?_⟩
    refine ⟨_, rfl, rfl, _, rfl, ite2 (fun z => absurd z (by decide)) fun _ => ?_⟩
    exact ⟨by decide, fun p np => k p _ (Same.new np) np upd_same⟩
theorem scPortsOf : FnScope ["statement", "head", "row"] ["statement"] (defScope sPortsOf) := ⟨rfl, rfl, rfl, by decide +kernel, rfl, by decide +kernel, by decide +kernel⟩
theorem ok_portsOf {f : Addr} {fd : FuncData} (F : Fun K "ports_of" "ports_of" sPortsOf f fd) : FnOk P w K mg base CX0 1 f fd ["statement"] spBlocksOf := by
  refine F.ok scPortsOf (fun vs H Q E h => ?_) (fun cdv A outer s H vs Q E hr h => ?_)
  · obtain ⟨p, rfl, _⟩ := h
    rfl
  · obtain ⟨S, rfl, hS, k⟩ := h
    refine ⟨_, pss_cons (ps_set (i := 1) scPortsOf.nd rfl (Or.inl rfl) (pe_ix ix_tup (pv 0) pe_int (fun _ _ => rfl)))
      (pss_cons (ps_if (pw_or (pt_cmpR op_eq (pv 1) pe_str (nomark _)) (pw_or1 (pt_cmpR op_eq (pv 1) pe_str (nomark _)))).pt pss_never pss_nil)
      (pss_cons (ps_if (pt_cmpR op_eq (pv 1) pe_str (nomark _)) pss_never pss_nil)
      (pss_one (ps_ret (pe_lst pa_nil))))), ?_⟩
    refine ⟨_, rfl, S, _, _, _, rfl, rfl, SqT.of hS, rfl, ?_⟩
    refine ⟨_, rfl, rfl, _, rfl, ite2 (fun z => absurd z (by decide)) fun _ => ⟨_, rfl, rfl, _, rfl, ite2 (fun z => absurd z (by decide)) fun _ => ?_⟩⟩
    refine ⟨_, rfl, rfl, _, rfl, ite2 (fun z => absurd z (by decide)) fun _ => ?_⟩
    exact ⟨by decide, fun p np => k p _ (Same.new np) np upd_same⟩
end
/-! ### the error raised -/
/-- self.what = what, the new dict told apart -/
def spEInitN (K : PySem.W.Frag) (f1 : Addr) : Sp := fun vs H Q _ => ∃ (a C : Addr) (v : V), vs = [.ref a, v] ∧ ErrC K f1 C ∧ H a = some (exo a C none) ∧ ∀ d, H d = none → d ≠ a → Q .non (upd (upd H d (exd d [("what", v)])) a (exo a C (some d)))
section
variable {P : Program} {w : World} {K : PySem.W.Frag} {mg : Str → Option Value} {base : Heap} {f1 hBR : Addr}
theorem ok_einitN {fd : FuncData} (F : EInit K f1 fd) : FnOk P w K mg base CX0 1 f1 fd ["self", "what"] (spEInitN K f1) := by
  refine F.ok scEInit (fun vs H Q E h => ?_) (fun cdv A outer s H vs Q E hr h => ?_)
  · obtain ⟨a, C, v, rfl, _⟩ := h
    rfl
  · obtain ⟨a, C, v, rfl, T, ha, k⟩ := h
    refine ⟨_, pss_one (ps_ost (pv 0) (pv 1)), ?_⟩
    exact ⟨_, rfl, _, rfl, a, C, rfl, T.ox, T.no, .inl ⟨ha, fun dx nd ne => k dx nd ne⟩⟩
/-- raise C(e): what its reading asks -/
theorem mko_err {H1 : Hp} {v : V} {C : Addr} {Q : XK} (T : ErrC K f1 C) (q : ∀ d, H1 d = none → Q (.ref C) (some d) (upd H1 d (.xd [("what", v)]))) :
    ([v] : List V).length ≤ 1000 ∧ ∀ a, H1 a = none → spEInitN K f1 (.ref a :: ([v] ++ [])) (upd H1 a (exo a C none))
      (fun u H2 => u = .non ∧ ∃ (d : Addr) (fs : List (Str × V)), H2 a = some (exo a C (some d)) ∧ H2 d = some (exd d fs) ∧ H1 d = none ∧ Q (.ref C) (some d) (upd (del H2 a) d (.xd fs))) (fun _ _ _ => False) := by
  refine ⟨by show 1 ≤ 1000; decide, fun a na => ⟨a, C, v, rfl, T, upd_same, fun d nd ne => ?_⟩⟩
  have nd' : H1 d = none := by rw [upd_ne ne] at nd; exact nd
  refine ⟨rfl, d, _, upd_same, by rw [upd_ne ne]; exact upd_same, nd', ?_⟩
  have e : upd (del (upd (upd (upd H1 a (exo a C none)) d (exd d [("what", v)])) a (exo a C (some d))) a) d (.xd [("what", v)]) = upd H1 d (.xd [("what", v)]) := by
    funext b
    by_cases hb : b = d
    · subst hb
      rw [upd_same, upd_same]
    · rw [upd_ne hb, upd_ne hb]
      by_cases ha : b = a
      · subst ha
        rw [del_same, na]
      · rw [del_ne ha, upd_ne ha, upd_ne hb, upd_ne ha]
  rw [e]
  exact q d nd'
/-- raise C(e) -/
theorem ps_raiseE {X : Cx} {W : WX} {x : Str} {C : Addr} {fd : FuncData} {e : Expr} {te : TE} {p pos pos2 : Pos} (hc : X.calm = true) (tk : Takes X W) (T : ErrC X.K f1 C) (tI : PySem.W.typeIn X.K (.ref f1) = some (.type "function"))
    (F1 : FnOk X.prog X.w X.K X.mg X.base CX0 1 f1 fd ["self", "what"] (spEInitN X.K f1)) (hr : Room 2 X.A) (hb : Binds X.K fd ["self", "what"] []) (hm : X.mg x = some (.ref C)) (he : PE X e te) (hg : Gl X x := by rfl) (hdb : (x == ("__debug__" : Str)) = false := by decide)
    (h1 : starEach [e] X.env = (false, eval e X.env) :: starEach [] X.env := by rfl) (hpl : (backTo pos (starEach [] X.env)).any (·.1) = false := by rfl) :
    PS X (.Raise (some (.Call (.Name x p) [e] [] pos)) none pos2) (fun _ σ H => tMkO C (spEInitN X.K f1) [] (tCons te tNil) σ H fun cls d H' => W cls d σ H') :=
  ps_raise (pos := pos2) hc tk (pmk_oex (p := p) (pos := pos) T.ox T.ini tI F1 hr hb .nil pass0 hg hm (pa_cons he pa_nil h1) hdb h1 hpl)
/-- what is due of a block: the block of home alone goes, a list is refused with () -/
def spCheck (hBR : Addr) : Sp := fun vs H Q E => ∃ B, vs = [.ref B] ∧ ((∃ S, HomeB H B S ∧ ∀ H', Same H H' → Q .non H') ∨
  ∃ xs, H B = some (.lst xs) ∧ ∀ d q H', Same H H' → H' d = some (.xd [("what", .ref q)]) → H' q = some (.tup []) → E (.ref hBR) (some d) H')
theorem scCheck : FnScope ["block", "wrong"] ["block"] (defScope sCheck) := ⟨rfl, rfl, rfl, by decide +kernel, rfl, by decide +kernel, by decide +kernel⟩
theorem ok_check {f fI fW fC : Addr} {fd fd1 fdI fdW fdC : FuncData} (F : Fun K "_check" "_check" sCheck f fd) (T : TxtP mg) (TE : ErrC K f1 hBR) (t1 : PySem.W.typeIn K (.ref f1) = some (.type "function")) (FE : EInit K f1 fd1) (mB : mg "BadRoutine" = some (.ref hBR))
    (GI : FnOk P w K mg base CX0 1 fI fdI ["value"] spIsBlock) (kI : PySem.W.keepIn K (.ref fI) = true) (bI : Binds K fdI ["value"] []) (mI : mg "is_block" = some (.ref fI))
    (GW : FnOk P w K mg base CX0 5 fW fdW ["block", "path", "depth", "in_repeat"] spFirst) (kW : PySem.W.keepIn K (.ref fW) = true) (bW : Binds K fdW ["block", "path", "depth", "in_repeat"] []) (mW : mg "first_wrong" = some (.ref fW))
    (GC : FnOk P w K mg base CX0 4 fC fdC ["block"] spCount) (kC : PySem.W.keepIn K (.ref fC) = true) (bC : Binds K fdC ["block"] []) (mC : mg "count_statements" = some (.ref fC)) :
    FnOk P w K mg base (L2.CX P w) 6 f fd ["block"] (spCheck hBR) := by
  refine F.okX scCheck (fun vs H Q E h => ?_) (fun cdv A outer s H vs Q E hr h => ?_)
  · obtain ⟨B, rfl, _⟩ := h
    rfl
  · obtain ⟨B, rfl, h⟩ := h
    have hr1 : Room 1 _ := hr.mono (by decide)
    have hr2 : Room 2 _ := hr.mono (by decide)
    have hr4 : Room 4 _ := hr.mono (by decide)
    obtain ⟨t, mm⟩ := T.most
    have GE : FnOk P w K mg base CX0 1 f1 fd1 ["self", "what"] (spEInitN K f1) := ok_einitN FE
    have bE := b_einit2 FE
    refine ⟨_, pss_cons (ps_if (pt_not (pt_val (pe_call GI hr1 (by rfl) mI kI bI .nil pass0 (pa_cons (pv 0) pa_nil)))) (pss_one (ps_raiseE rfl (takes_of rfl rfl rfl rfl) TE t1 GE hr2 bE mB (pe_tup pa_nil))) pss_nil)
      (pss_cons (ps_set (i := 1) scCheck.nd rfl (Or.inl rfl) (pe_call GW hr (by rfl) mW kW bW .nil pass0 (pa_cons (pv 0) (pa_cons (pe_tup pa_nil) (pa_cons pe_int (pa_cons pe_bl pa_nil))))))
      (pss_cons (ps_if (pt_cmpR op_notN (pv 1) pe_non (nomark _)) pss_never pss_nil)
      (pss_one (ps_if (pt_cmpR op_gt (pe_call GC hr4 (by rfl) mC kC bC .nil pass0 (pa_cons (pv 0) pa_nil)) (pe_glob (v := .int 6000) (by rfl) mm ⟨t, rfl⟩) (nomark _)) pss_never pss_nil)))), ?_⟩
    rcases h with ⟨S, hB, k⟩ | ⟨xs, hB, k⟩
    · refine ⟨_, rfl, B, rfl, .inl ⟨_, hB.1, (by show 1 ≤ 12; decide), ⟨_, rfl, iteF ?_⟩⟩⟩
      refine ⟨_, rfl, by decide, fun q nq => ?_⟩
      have s1 : Same H (upd H q (.tup [])) := Same.new nq
      refine ⟨B, S, q, rfl, hB.keep s1, upd_same, fun H2 s2 => ?_⟩
      refine ⟨_, rfl, rfl, _, rfl, iteF ?_⟩
      refine ⟨_, rfl, B, S, rfl, hB.keep (s1.trans s2), fun H3 s3 => ⟨_, _, rfl, rfl, _, rfl, ite2 (fun z => absurd z (by decide)) fun _ => ?_⟩⟩
      exact k H3 (s1.trans (s2.trans s3))
    · refine ⟨_, rfl, B, rfl, .inr ⟨xs, hB, ⟨_, rfl, iteT ?_⟩⟩⟩
      refine ⟨by decide, fun q nq => ?_⟩
      have s1 : Same H (upd H q (.tup [])) := Same.new nq
      exact mko_err TE fun d nd => k d q _ (s1.trans (Same.new nd)) upd_same ((Same.new nd) _ _ upd_same)
end
end Oh
namespace Oh
open PySem PySem.Spec PyProof.Rows L2
/-- a routine over the block at B -/
def RoutH (H : Hp) (hR r B : Addr) : Prop := ∃ (dx : Addr) (fs : List (Str × V)), H r = some (.ins hR dx fs) ∧ fs.lookup ("block" : Str) = some (V.ref B)
def spInit (hR hBR : Addr) : Sp := fun vs H Q E => ∃ r B dx, vs = [.ref r, .ref B] ∧ r ≠ B ∧ H r = some (.ins hR dx []) ∧ ((∃ S, HomeB H B S ∧ ∀ H', (∀ b o, H b = some o → b ≠ r → H' b = some o) → RoutH H' hR r B → Q .non H') ∨
  ∃ xs, H B = some (.lst xs) ∧ ∀ d q H', Same H H' → H' d = some (.xd [("what", .ref q)]) → H' q = some (.tup []) → E (.ref hBR) (some d) H')
abbrev nIn : List Str := ["self", "block", "rows", "row", "name", "port"]
theorem scRInit : FnScope nIn ["self", "block"] (defScope sRInit) := ⟨rfl, rfl, rfl, by decide +kernel, rfl, by decide +kernel, by decide +kernel⟩
theorem boot_sorted : bootBuiltins "sorted" = some (.builtin "sorted") := by decide +kernel
/-- a dict comprehension, its keys tuples, over a walk -/
theorem dc_it {J : It} {n : Nat} {G : Hp → Prop} {Y : Nat → Hp → V → Hp → Prop} (w : Walk J n G Y) {g : TG} {tt : TT} {tk tv : TE} {vs : List Nat} {σ : L2.St} {H1 : Hp} {D : Addr} {Qd : Hp → Prop} (Pv : Nat → Hp → Prop) (h0 : Pv 0 (upd H1 D (.dT []))) (hG : ∀ i H, i ≤ n → Pv i H → G H)
    (hs : ∀ i x H H', i < n → Pv i H → Y i H x H' → g x (wipe σ vs) H' fun σ2 H2 => wipe σ2 vs = wipe σ vs ∧ tt σ2 H2 fun b H3 =>
      if b = true then tk σ2 H3 fun y H4 => tv σ2 H4 fun z H5 => ∃ (c : Addr) (kvs : List (List L2.Key × V)) (k : List L2.Key), y = .ref c ∧ H5 c = some (.tup (k.map kV)) ∧ H5 D = some (.dT kvs) ∧ kvs.length < sizeLine ∧ Pv (i + 1) (upd H5 D (.dT (putK kvs k z))) else Pv (i + 1) H3) (hd : ∀ H, Pv n H → Qd H) :
    ∃ W : Nat → Nat → Hp → Prop, (∃ m, W 0 m (upd H1 D (.dT []))) ∧ ∀ i m H, W i m H →
      (J.stop i H ∧ Qd H) ∨ (J.go i H ∧ ∃ Nx : Hp → Prop, (∀ H', Nx H' → ∃ m', m' < m ∧ W (i + 1) m' H') ∧ ∀ x H', J.yld i H x H' → g x (wipe σ vs) H' fun σ2 H2 => wipe σ2 vs = wipe σ vs ∧ tt σ2 H2 fun b H3 =>
        if b = true then tk σ2 H3 fun y H4 => tv σ2 H4 fun z H5 => ∃ (c : Addr) (kvs : List (List L2.Key × V)) (k : List L2.Key), y = .ref c ∧ H5 c = some (.tup (k.map kV)) ∧ H5 D = some (.dT kvs) ∧ kvs.length < sizeLine ∧ Nx (upd H5 D (.dT (putK kvs k z))) else Nx H3) := by
  refine ⟨fun i m H => m = n - i ∧ i ≤ n ∧ Pv i H, ⟨n, by simp, Nat.zero_le _, h0⟩, ?_⟩
  rintro i m H ⟨rfl, hi, p⟩
  have q := hG i H hi p
  by_cases hlt : i < n
  · exact .inr ⟨w.goes i H hlt q, Pv (i + 1), fun H' p' => ⟨n - (i + 1), by omega, rfl, hlt, p'⟩, fun x H' y => hs i x H H' hlt p (w.yields i H x H' hlt q y)⟩
  · have e : i = n := by omega
    subst e
    exact .inl ⟨w.stops H q, hd H p⟩
theorem ixT_at {K : PySem.W.Frag} {σ : L2.St} {H : Hp} {Q : VK} {R : Addr} {xs : List V} {x : V} {j : Int} {i : Nat} (h3 : σ[i]? = some (some (.ref R))) (hR : H R = some (.tup xs)) (e : atI xs j = some x) (q : Q x H) : tOp (rIxT K) (tVar i) (tC (.int j)) σ H Q :=
  ⟨_, h3, R, _, _, _, rfl, rfl, SqT.of hR, e, q⟩
/-- the dict of the one row -/
theorem dc_one {K : PySem.W.Frag} {s0 s1 s3 s4 s5 : Option V} {H : Hp} {Q : VK} {L R T S : Addr} {j : Int} {x : V} (la : LaidAt H L R T S) (e : atI [.ref T, .ref S, .non] j = some x) (k : ∀ D H', H D = none → Same H H' → Q (.ref D) H') :
    tDcT (iList K (tVar 2)) (gName 3) tYes (tOp (rIxT K) (tVar 3) (tC (.int 0))) (tOp (rIxT K) (tVar 3) (tC (.int j))) [3] [s0, s1, some (.ref L), s3, s4, s5] H Q := by
  refine ⟨_, rfl, L, rfl, ⟨_, SqL.of la.1⟩, fun D nD => dc_it (walk_list (xs := [V.ref R])) (fun i H' => Same H H' ∧ (i = 0 → H' D = some (.dT []))) ⟨Same.new nD, fun _ => upd_same⟩ (fun i H' _ q => SqL.of (q.1 _ _ la.1)) ?_ ?_⟩
  · rintro i y H1 H2 hi ⟨sm, hD⟩ ⟨e2, ey⟩
    subst e2
    obtain rfl : i = 0 := by have : i < 1 := hi; omega
    obtain rfl := Option.some.inj ey
    refine ⟨rfl, ?_⟩
    refine ixT_at (i := 3) rfl (sm _ _ la.2.1) rfl (ixT_at (i := 3) rfl (sm _ _ la.2.1) e ⟨T, [], [.inl 0], rfl, sm _ _ la.2.2, hD rfl, (by show 0 < sizeLine; decide), fun b o eb => ?_, fun z => absurd z (by decide)⟩)
    rw [upd_ne (ne_of_none eb nD)]
    exact sm b o eb
  · rintro H' ⟨sm, _⟩
    exact k D H' nD sm
/-- a set comprehension that adds nothing, over one row -/
theorem sc_one {K : PySem.W.Frag} {w : World} {s0 s1 s3 s4 s5 : Option V} {H : Hp} {Q : VK} {L R T S : Addr} {c : Nat} (hc : c = 4 ∨ c = 5) (la : LaidAt H L R T S) (hS : HomeS H S) (k : ∀ D H', H D = none → Same H H' → H' D = some (SetO w D (fun _ => false) 0) → Q (.ref D) H') :
    tSc2 (fun D => SetO w D (fun _ => false) 0) (fun _ _ _ _ => False) (iList K (tVar 2)) (gName 3) tYes (iList K (tCall spBlocksOf [] E0 (tCons (tOp (rIxT K) (tVar 3) (tC (.int 1))) tNil))) (gName c) tYes (fun _ _ _ => False) [3, c] [c] [s0, s1, some (.ref L), s3, s4, s5] H Q := by
  refine ⟨_, rfl, L, rfl, ⟨_, SqL.of la.1⟩, fun D nD => ⟨fun i m H' => m = 1 - i ∧ i ≤ 1 ∧ Same H H' ∧ H' D = some (SetO w D (fun _ => false) 0), ⟨1, rfl, Nat.zero_le _, Same.new nD, upd_same⟩, ?_⟩⟩
  rintro i m H1 ⟨rfl, hi, sm, hD⟩
  by_cases e : i = 1
  · subst e
    exact .inl ⟨⟨_, SqL.of (sm _ _ la.1), Nat.le_refl _⟩, k D H1 nD sm hD⟩
  · obtain rfl : i = 0 := by omega
    refine .inr ⟨⟨_, V.ref R, SqL.of (sm _ _ la.1), rfl⟩, fun H' => Same H H' ∧ H' D = some (SetO w D (fun _ => false) 0), fun H' q => ⟨0, by decide, rfl, Nat.le_refl _, q⟩, fun x H' y => ?_⟩
    obtain ⟨e2, ex⟩ := y
    subst e2
    have ex : some (V.ref R) = some x := ex _ (SqL.of (sm _ _ la.1))
    obtain rfl := Option.some.inj ex
    rcases hc with rfl | rfl
    all_goals
      refine ⟨rfl, ?_⟩
      refine ixT_at (i := 3) rfl (sm _ _ la.2.1) rfl ⟨S, rfl, sm _ _ hS, fun E H4 h4 nE eE => ⟨E, rfl, ⟨_, SqL.of eE⟩, ?_⟩⟩
      exact ⟨fun j _ Hj => j = 0 ∧ Hj = H4, ⟨0, rfl, rfl⟩, fun j kk Hj ⟨ej, eH⟩ => .inl ⟨⟨[], by rw [eH]; exact SqL.of eE, Nat.zero_le _⟩, by rw [eH]; exact ⟨sm.trans h4, h4 _ _ hD⟩⟩⟩
/-- what the class of routines has -/
structure RCls (K : PySem.W.Frag) (hR : Addr) : Prop where
  cl : Cls K hR
  n1 : NoAttr K hR "block"
  n2 : NoAttr K hR "_statements"
  n3 : NoAttr K hR "_followers"
  n4 : NoAttr K hR "_names"
  n5 : NoAttr K hR "_ports"
/-- the new routine while its attributes are set -/
structure Pk (H0 : Hp) (hR r B L R T S : Addr) (n : Nat) (Hn : Hp) : Prop where
  ex : ∃ (dx : Addr) (fs : List (Str × V)), Hn r = some (.ins hR dx fs) ∧ fs.length ≤ n ∧ fs.lookup ("block" : Str) = some (V.ref B)
  la : LaidAt Hn L R T S
  ho : HomeS Hn S
  sb : ∀ b o, H0 b = some o → b ≠ r → Hn b = some o
theorem Pk.same {H0 : Hp} {hR r B L R T S : Addr} {n : Nat} {Hn Hm : Hp} (p : Pk H0 hR r B L R T S n Hn) (s : Same Hn Hm) : Pk H0 hR r B L R T S n Hm := by
  obtain ⟨dx, fs, h1, h2, h3⟩ := p.ex
  exact ⟨⟨dx, fs, s _ _ h1, h2, h3⟩, ⟨s _ _ p.la.1, s _ _ p.la.2.1, s _ _ p.la.2.2⟩, s _ _ p.ho, fun b o e nb => s _ _ (p.sb b o e nb)⟩
theorem Pk.put {H0 : Hp} {hR r B L R T S dx : Addr} {fs : List (Str × V)} {n : Nat} {Hn : Hp} {f : Str} {y : V} (p : Pk H0 hR r B L R T S n Hn) (hf : f ≠ "block") (h1 : Hn r = some (.ins hR dx fs)) (h2 : fs.length ≤ n) (h3 : fs.lookup ("block" : Str) = some (V.ref B)) :
    Pk H0 hR r B L R T S (n + 1) (upd Hn r (.ins hR dx (putF f y fs))) := by
  have nL : L ≠ r := fun z => by subst z; cases h1.symm.trans p.la.1
  have nR : R ≠ r := fun z => by subst z; cases h1.symm.trans p.la.2.1
  have nT : T ≠ r := fun z => by subst z; cases h1.symm.trans p.la.2.2
  have nS : S ≠ r := fun z => by subst z; cases h1.symm.trans (show Hn S = some (.tup [.str "home"]) from p.ho)
  refine ⟨⟨dx, _, upd_same, ?_, ?_⟩, ⟨by rw [upd_ne nL]; exact p.la.1, by rw [upd_ne nR]; exact p.la.2.1, by rw [upd_ne nT]; exact p.la.2.2⟩, by show upd _ _ _ S = _; rw [upd_ne nS]; exact p.ho, fun b o e nb => by rw [upd_ne nb]; exact p.sb b o e nb⟩
  · have := length_putF f y fs
    omega
  · rw [lookup_putF, if_neg (fun z => hf z.symm)]
    exact h3
section
variable {P : Program} {w : World} {K : PySem.W.Frag} {mg : Str → Option Value} {base : Heap} {hR hBR : Addr}
theorem ok_rinit {f fC fL fN fP : Addr} {fd fdC fdL fdN fdP : FuncData} (F : Fun K "__init__" "Routine.__init__" sRInit f fd) (T : RCls K hR) (mso : mg "sorted" = none)
    (GC : FnOk P w K mg base (L2.CX P w) 6 fC fdC ["block"] (spCheck hBR)) (kC : PySem.W.keepIn K (.ref fC) = true) (bC : Binds K fdC ["block"] []) (mC : mg "_check" = some (.ref fC))
    (GL : FnOk P w K mg base CX0 2 fL fdL ["block", "path", "behind", "outside"] spLaid) (kL : PySem.W.keepIn K (.ref fL) = true) (bL : Binds K fdL ["block", "path", "behind", "outside"] []) (mL : mg "laid_out" = some (.ref fL))
    (GN : FnOk P w K mg base CX0 1 fN fdN ["statement"] spBlocksOf) (kN : PySem.W.keepIn K (.ref fN) = true) (bN : Binds K fdN ["statement"] []) (mN : mg "names_of" = some (.ref fN))
    (GP : FnOk P w K mg base CX0 1 fP fdP ["statement"] spBlocksOf) (kP : PySem.W.keepIn K (.ref fP) = true) (bP : Binds K fdP ["statement"] []) (mP : mg "ports_of" = some (.ref fP)) :
    FnOk P w K mg base (L2.CX P w) 7 f fd ["self", "block"] (spInit hR hBR) := by
  refine F.okX scRInit (fun vs H Q E h => ?_) (fun cdv A outer s H vs Q E hr h => ?_)
  · obtain ⟨r, B, dx, rfl, _⟩ := h
    rfl
  · obtain ⟨r, B, dx, rfl, hrB, hr0, h⟩ := h
    have hr1 : Room 1 _ := hr.mono (by decide)
    have hr2 : Room 2 _ := hr.mono (by decide)
    have hu := hu_of hr1
    refine ⟨_, pss_cons (ps_expr (pe_call GC hr (by rfl) mC kC bC .nil (passes_call (takes_of rfl rfl rfl rfl) (fun _ _ _ _ h => h)) (pa_cons (pv 1) pa_nil)))
      (pss_cons (ps_fld (pv 0) (pv 1) rfl)
      (pss_cons (ps_set (i := 2) scRInit.nd rfl (Or.inl rfl) (pe_call GL hr2 (by rfl) mL kL bL .nil pass0 (pa_cons (pv 1) (pa_cons (pe_tup pa_nil) (pa_cons pe_non (pa_cons pe_non pa_nil))))))
      (pss_cons (ps_fld (pv 0) (pe_dcT (own := [("row", 3)]) (g := gName 3) (tt := tYes) (tk := tOp (rIxT K) (tVar 3) (tC (.int 0))) (tv := tOp (rIxT K) (tVar 3) (tC (.int 1))) (Nat.lt_of_succ_lt hu) rfl scRInit.nd (pi_list (pv 2)) (blkOk_by (N := nIn) (sc := defScope sRInit) (by decide +kernel)) (fun _ _ _ _ _ => pg_name (i := 3) scRInit.nd rfl (Or.inl rfl)) (fun _ _ _ _ _ => pts_nil)
          (fun _ _ _ _ _ => pe_ix ix_tup (pv 3) pe_int (fun _ _ => rfl)) (fun _ _ _ _ _ => pe_ix ix_tup (pv 3) pe_int (fun _ _ => rfl))) rfl)
      (pss_cons (ps_fld (pv 0) (pe_dcT (own := [("row", 3)]) (g := gName 3) (tt := tYes) (tk := tOp (rIxT K) (tVar 3) (tC (.int 0))) (tv := tOp (rIxT K) (tVar 3) (tC (.int 2))) (Nat.lt_of_succ_lt hu) rfl scRInit.nd (pi_list (pv 2)) (blkOk_by (N := nIn) (sc := defScope sRInit) (by decide +kernel)) (fun _ _ _ _ _ => pg_name (i := 3) scRInit.nd rfl (Or.inl rfl)) (fun _ _ _ _ _ => pts_nil)
          (fun _ _ _ _ _ => pe_ix ix_tup (pv 3) pe_int (fun _ _ => rfl)) (fun _ _ _ _ _ => pe_ix ix_tup (pv 3) pe_int (fun _ _ => rfl))) rfl)
      (pss_cons (ps_fld (pv 0) (pe_callB (cr_sortedSet rfl) (by rfl) mso boot_sorted (pa_cons
          (pe_sc2 (own := [("row", 3), ("name", 4)]) (vs1 := [4]) (g := gName 3) (tt := tYes) (g1 := gName 4) (tt1 := tYes) (wi1 := iList K (tCall spBlocksOf [] E0 (tCons (tOp (rIxT K) (tVar 3) (tC (.int 1))) tNil))) (te := fun _ _ _ => False) (kind0 P w) rfl scRInit.nd (pi_list (pv 2))
            (blkOk_by (N := nIn) (sc := defScope sRInit) (by decide +kernel)) (by decide +kernel) (fun _ _ _ _ _ => pg_name (i := 3) scRInit.nd rfl (Or.inl rfl)) (fun _ _ _ _ _ => pts_nil)
            (fun _ _ _ _ _ => pi_list (by exact (pe_call GN hr1 (by rfl) mN kN bN .nil pass0 (pa_cons (pe_ix ix_tup (pv 3) pe_int (fun _ _ => rfl)) pa_nil)))) (fun _ _ _ _ _ => pg_name (i := 4) scRInit.nd rfl (Or.inl rfl)) (fun _ _ _ _ _ => pts_nil) (fun _ _ _ _ _ => pe_never)) pa_nil)) rfl)
      (pss_one (ps_fld (pv 0) (pe_callB (cr_sortedSet rfl) (by rfl) mso boot_sorted (pa_cons
          (pe_sc2 (own := [("row", 3), ("port", 5)]) (vs1 := [5]) (g := gName 3) (tt := tYes) (g1 := gName 5) (tt1 := tYes) (wi1 := iList K (tCall spBlocksOf [] E0 (tCons (tOp (rIxT K) (tVar 3) (tC (.int 1))) tNil))) (te := fun _ _ _ => False) (kind0 P w) rfl scRInit.nd (pi_list (pv 2))
            (blkOk_by (N := nIn) (sc := defScope sRInit) (by decide +kernel)) (by decide +kernel) (fun _ _ _ _ _ => pg_name (i := 3) scRInit.nd rfl (Or.inl rfl)) (fun _ _ _ _ _ => pts_nil)
            (fun _ _ _ _ _ => pi_list (by exact (pe_call GP hr1 (by rfl) mP kP bP .nil pass0 (pa_cons (pe_ix ix_tup (pv 3) pe_int (fun _ _ => rfl)) pa_nil)))) (fun _ _ _ _ _ => pg_name (i := 5) scRInit.nd rfl (Or.inl rfl)) (fun _ _ _ _ _ => pts_nil) (fun _ _ _ _ _ => pe_never)) pa_nil)) rfl))))))), ?_⟩
    rcases h with ⟨S, hB, k⟩ | ⟨xs, hB, k⟩
    · refine ⟨_, rfl, B, rfl, .inl ⟨S, hB, fun H1 s1 => ?_⟩⟩
      have h1 := s1 _ _ hr0
      have hB1 := hB.keep s1
      have nS : S ≠ r := fun z => by subst z; cases hr0.symm.trans (show H S = some (.tup [.str "home"]) from hB.2)
      refine ⟨_, rfl, _, rfl, r, hR, dx, [], rfl, h1, T.cl, T.n1, by decide, ?_⟩
      have hB2 : HomeB (upd H1 r (.ins hR dx (putF "block" (V.ref B) []))) B S := ⟨by rw [upd_ne (Ne.symm hrB)]; exact hB1.1, by show upd _ _ _ S = _; rw [upd_ne nS]; exact hB1.2⟩
      refine ⟨_, rfl, by decide, fun p np => ⟨B, S, p, rfl, hB2.keep (Same.new np), upd_same, fun L R T0 H3 s3 la nL nR nT => ?_⟩⟩
      have pk : Pk H hR r B L R T0 S 1 H3 := by
        refine Pk.same (Hn := H3) ⟨⟨dx, _, s3 _ _ ((Same.new np) _ _ upd_same), (by show 1 ≤ 1; decide), rfl⟩, la, s3 _ _ ((Same.new np) _ _ hB2.2), fun b o e nb => s3 _ _ ((Same.new np) _ _ (by rw [upd_ne nb]; exact s1 _ _ e))⟩ (Same.refl H3)
      dsimp only [tSeq, gName, sFld]
      refine dc_one (j := 1) (x := .ref S) pk.la rfl ?_
      intro D4 H4 n4 s4
      obtain ⟨dx9, fs9, a1, a2, a3⟩ := (pk.same s4).ex
      refine ⟨_, rfl, r, hR, dx9, fs9, rfl, a1, T.cl, T.n2, by omega, ?_⟩
      have p5 := (pk.same s4).put (f := "_statements") (y := .ref D4) (by decide) a1 a2 a3
      refine dc_one (j := 2) (x := .non) p5.la rfl ?_
      intro D6 H6 n6 s6
      obtain ⟨dx9, fs9, a1, a2, a3⟩ := (p5.same s6).ex
      refine ⟨_, rfl, r, hR, dx9, fs9, rfl, a1, T.cl, T.n3, by omega, ?_⟩
      have p7 := (p5.same s6).put (f := "_followers") (y := .ref D6) (by decide) a1 a2 a3
      dsimp only [tSeq, gName, sFld, tCB, tCons, tNil]
      refine sc_one (c := 4) (.inl rfl) p7.la p7.ho ?_
      intro D8 H8 n8 s8 e8
      refine ⟨D8, _, 0, rfl, e8, by decide, fun ns q _ _ hl nq => ?_⟩
      obtain ⟨dx9, fs9, a1, a2, a3⟩ := ((p7.same s8).same (Same.new (o := .lst (ns.map V.int)) nq)).ex
      refine ⟨_, rfl, r, hR, dx9, fs9, rfl, a1, T.cl, T.n4, by omega, ?_⟩
      have p9 := ((p7.same s8).same (Same.new nq)).put (f := "_names") (y := .ref q) (by decide) a1 a2 a3
      refine sc_one (c := 5) (.inr rfl) p9.la p9.ho ?_
      intro D8 H8 n8 s8 e8
      refine ⟨D8, _, 0, rfl, e8, by decide, fun ns q _ _ hl nq => ?_⟩
      obtain ⟨dx9, fs9, a1, a2, a3⟩ := ((p9.same s8).same (Same.new (o := .lst (ns.map V.int)) nq)).ex
      refine ⟨_, rfl, r, hR, dx9, fs9, rfl, a1, T.cl, T.n5, by omega, ?_⟩
      have p10 := ((p9.same s8).same (Same.new nq)).put (f := "_ports") (y := .ref q) (by decide) a1 a2 a3
      obtain ⟨dx', fs', x1, x2, x3⟩ := p10.ex
      exact k _ p10.sb ⟨dx', fs', x1, x3⟩
    · exact ⟨_, rfl, B, rfl, .inr ⟨xs, hB, k⟩⟩
end
end Oh
/-! x != y, x and y of an own class with an own __eq__ and no own __ne__. -/
namespace PySem.W
open PySem PySem.Spec PySem.Calls PyProof.Rows
section
variable {prog : Program} {w : World} {A : Around} {E : Value → Shared → Prop} {s : Shared} {K : Frag} {x C f : Addr} {ox : Obj} {od : Option Obj}
theorem ne_bound {M : Model} {args : List Value} {Q : Option Value → Shared → Prop} (X : K.In s.heap) (I : InstAt s.heap x ox C od) (hs : findIn K (.ref C) "__ne__" = some (some (.builtin "object.__ne__")))
    (h : wpAny M A (call (.builtin "object.__ne__") (.ref x :: args)) (fun v => Q (some v)) E s) : wpAny M A (callSpecialIfBound? (.ref x) "__ne__" args) Q E s := by
  simp only [callSpecialIfBound?, bindSpecialIfBound?]
  refine wpAny_holding (wpAny_bind (wpAny_bind (wpAny_bind (I.type.here ((looks_findIn X hs).here ?_)))))
  simp only [F.cmp_object.ne.bind]
  refine wpAny_bind (wpAny_askSetting (wpAny_ite ?_))
  have fin : wpAny M A (call (.builtin "object.__ne__") ([.ref x] ++ args) >>= fun v => pure (some v)) Q E s := wpAny_bind (wpAny_mono h (fun v s' h' => wpAny_pure h') fun _ _ h' => h')
  split
  · exact wpAny_bind (wpAny_pure (wpAny_pure fin))
  · exact wpAny_tryCatch (wpAny_bind (wpAny_pure (wpAny_pure fin)))
theorem ne_entry {y : Value} (X : K.In s.heap) (I : InstAt s.heap x ox C od) (he : findIn K (.ref C) "__eq__" = some (some (.ref f))) (hf : isFn K (.ref f) = true) (hu : A.units < cLine) {Q : Fin → Shared → Prop}
    (hcall : wpAny (model prog w) A (call (.ref f) [.ref x, y]) (fun v s' => ∃ b, v = .bool b ∧ Q (.done (.ret (.bool (!b)))) s') E s) : wpAny (model prog w) A (Builtin.«object.__ne__» ⟨[.ref x, y], []⟩) Q E s := by
  unfold Builtin.«object.__ne__»
  repeat (first
    | with_reducible refine wpAny_cRoomFor hu ?_
    | (refine wpAny_bind (m := callSpecialIfBound? (.ref x) (Str.ofString "__eq__") [y])
        (ifBound_K X I he hf (wpAny_mono hcall (fun r s' hr => by
          obtain ⟨b, rfl, hq⟩ := hr
          repeat (first | exact hq | exact wpAny_pure hq | exact wpAny_truthy_bool hq | (refine wpAny_bind (m := truthy (.bool _)) (wpAny_truthy_bool ?_)) | wp_step)) fun _ _ e => e)))
    | wp_step)
theorem ne_K {y : Addr} {oy : Obj} {ody : Option Obj} (X : K.In s.heap) (I : InstAt s.heap x ox C od) (I2 : InstAt s.heap y oy C ody) (hs : findIn K (.ref C) "__ne__" = some (some (.builtin "object.__ne__"))) (he : findIn K (.ref C) "__eq__" = some (some (.ref f))) (hf : isFn K (.ref f) = true)
    (ho : subIn K (.ref C) (.type "object") = some true) (hu : A.units + 1 < cLine) {Q : Value → Shared → Prop}
    (hcall : wpAny (model prog w) A.in1 (call (.ref f) [.ref x, .ref y]) (fun v s' => ∃ b, v = .bool b ∧ Q (.bool (!b)) s') E s) : wpAny (model prog w) A (compareOp .NotEq (.ref x) (.ref y)) Q E s := by
  unfold compareOp richCompare
  simp only [oneThing_ref]
  refine wpAny_holding ?_
  refine wpAny_bind (wpAny_cRoomFor (Nat.lt_of_succ_lt hu) ?_)
  rw [cmpInfo_NotEq]
  dsimp only
  refine wpAny_bind (I.type.here ?_)
  refine wpAny_bind (I2.type.here ?_)
  rw [show (Value.ref C != Value.ref C) = false from by simp]
  simp only [Bool.false_eq_true, if_false]
  refine wpAny_bind (wpAny_pure ?_)
  simp only [Bool.false_eq_true, if_false]
  refine wpAny_bind ?_
  simp only [tryCompare]
  obtain ⟨hp, g, d, t, os⟩ := s
  have isO : Looks (model prog w) hp (isInstance (.ref x) (.type "object")) true := I.type.andThen (looks_subIn X ho)
  refine wpAny_bind (ne_bound X I hs (wpAny_call (codeAny_call_builtin F.cmp_object.ne.plain F.cmpEntry_ne ?_)))
  refine @check_slot (model prog w) _ _ ⟨hp, g, d, t, os⟩ "object.__ne__" "object" "__ne__" (.ref x) [.ref y] [] _ F.cmpKind_ne F.cmpSplit_ne isO (F.cmpArgs_ne _ _) ?_
  refine ne_entry (A := A.in1) X I he hf hu (wpAny_mono hcall (fun v s' hv => ?_) fun _ _ e => e)
  obtain ⟨b, rfl, hq⟩ := hv
  first
    | exact ⟨b, rfl, wpAny_pure hq⟩
    | exact ⟨b, rfl, wpAny_pure (wpAny_pure hq)⟩
    | exact ⟨b, rfl, hq⟩
    | exact ⟨b, rfl, (fun z => nomatch z), wpAny_pure (wpAny_pure hq)⟩
    | trace_state
end
end PySem.W
namespace L2
open PySem PySem.Spec PyProof.Rows
/-- what the class says of == and != -/
structure OwnNe (K : PySem.W.Frag) (C f : Addr) : Prop where
  ne : PySem.W.findIn K (.ref C) "__ne__" = some (some (.builtin "object.__ne__"))
  eq : PySem.W.findIn K (.ref C) "__eq__" = some (some (.ref f))
  fn : PySem.W.isFn K (.ref f) = true
  ob : PySem.W.subIn K (.ref C) (.type "object") = some true
def rNeOwn (C : Addr) (sp : Sp) : R2 := fun x y H Q => ∃ a b dx dy fs gs, x = .ref a ∧ y = .ref b ∧ H a = some (.ins C dx fs) ∧ H b = some (.ins C dy gs) ∧ sp [.ref a, .ref b] H (fun v H' => ∃ c, v = .bl c ∧ Q (.bl (!c)) H') E0
theorem op_neOwn {X : Cx} {C f : Addr} {fd : FuncData} {ps : List Str} {sp : Sp} {n : Nat} (T : OwnNe X.K C f) (F : FnOk X.prog X.w X.K X.mg X.base CX0 n f fd ps sp) (hb : Binds X.K fd ps []) (hr : Room (n + 1) X.A) (hu : X.A.units + 1 < cLine) : OpR X (compareOp .NotEq) (rNeOwn C sp) := by
  intro pins s σ H x y v u Q I rx ry h
  obtain ⟨a, b, dx, dy, fs, gs, rfl, rfl, ha, hb', hsp⟩ := h
  cases rx
  cases ry
  obtain ⟨mA, J, _⟩ := ins_get I.hok ha
  obtain ⟨mB, J', _⟩ := ins_get I.hok hb'
  obtain ⟨od, J, _⟩ := J.look
  obtain ⟨od', J', _⟩ := J'.look
  refine PySem.W.ne_K I.kIn J J' T.ne T.eq T.fn T.ob hu ?_
  have hl := F.len _ _ _ _ hsp
  have r2 : Vals [V.ref a, V.ref b] [Value.ref a, Value.ref b] := .cons rfl (.cons rfl .nil)
  refine wpAny_call (codeAny_mono (F.run X.A.in1 X.stack s H ⟨[.ref a, .ref b], []⟩ [.ref a, .ref b] [.ref a, .ref b] _ E0 hr.in1 I.env0.in1 (by
    have := hb s [.ref a, .ref b] I.kIn (by simpa using hl)
    simpa using this) r2 hsp) fun r s' hq => ?_)
  cases r with
  | error e => exact hq.elim
  | ok fl =>
    cases fl with
    | ret w =>
      obtain ⟨z, H', I', rz, c, ez, q⟩ := I.after hq
      subst ez
      cases rz
      exact ⟨c, rfl, ⟨.bl (!c), H', I', rfl, q⟩⟩
    | next => exact False.elim hq
    | brk => exact False.elim hq
    | cont => exact False.elim hq
end L2
namespace L2
open PySem PySem.Spec PyProof.Rows
section
variable {X : Cx} {CX : CXT} {x : Str} {C f : Addr} {k : Nat} {fd : FuncData} {ps : List Str} {sp : Sp} {E : L2.St → XK} {e : Expr} {es : List Expr} {t : TA} {p pos : Pos}
/-- C(e, ..), what it lets out told at the slots -/
def tMakeS (C : Addr) (sp : Sp) (E : L2.St → XK) (t : TA) : TE := fun σ H Q => t σ H fun vs H1 => ∀ x dx, H1 x = none → H1 dx = none → dx ≠ x →
  sp (.ref x :: vs) (upd (upd H1 dx (.own x)) x (.ins C dx [])) (fun v H2 => v = .non ∧ Q (.ref x) H2) (E σ)
theorem pe_makeS (M : Mk X.K C f) (F : FnOk X.prog X.w X.K X.mg X.base CX k f fd ps sp) (hr : Room (k + 1) X.A) (hg : Gl X x) (hm : X.mg x = some (.ref C)) (hb : Binds X.K fd ps []) (hx : ∀ σ, PassesAt CX X σ (E σ))
    (ha : PA X (e :: es) t) (hdb : (x == ("__debug__" : Str)) = false := by decide) (he : starEach (e :: es) X.env = (false, eval e X.env) :: starEach es X.env := by rfl) (hpl : (backTo pos (starEach es X.env)).any (·.1) = false := by rfl) :
    PE X (.Call (.Name x p) (e :: es) [] pos) (tMakeS C sp E t) := by
  refine ⟨fun pins s σ H Q I h => ?_⟩
  refine wpAny_Call_Name_kw (ld_glob I hg hm ?_ hdb)
  refine PySem.W.callWith_K (h₀ := X.base) I.ok.mod.kin M.kp (thn (ha.run pos pins s σ H _ I h) fun us s1 ⟨vs, H1, I1, r, q⟩ => ⟨I1.kIn, ?_⟩) he hpl
  have hq := q (s1.heap.objs.size + 1) s1.heap.objs.size (I1.hok.fresh (Nat.le_succ _)) (I1.hok.fresh (Nat.le_refl _)) (Nat.ne_of_lt (Nat.lt_succ_self _))
  have I2 := Inv.made (C := C) I1
  have r2 : Vals (V.ref (s1.heap.objs.size + 1) :: vs) (Value.ref (s1.heap.objs.size + 1) :: us) := .cons rfl r
  have hl : (Value.ref (s1.heap.objs.size + 1) :: us).length = ps.length := by
    have e := r2.length
    rw [F.len _ _ _ _ hq] at e
    exact e.symm
  have bb := hb _ (Value.ref (s1.heap.objs.size + 1) :: us) I2.kIn (by rw [List.append_nil]; exact hl)
  rw [List.append_nil] at bb
  refine wpAny_call (make_map (f := f) I1.kIn M.makes M.init (beq_iff_eq.mp M.fn) (codeAny_mono (F.run _ X.stack _ _ ⟨Value.ref (s1.heap.objs.size + 1) :: us, []⟩ (Value.ref (s1.heap.objs.size + 1) :: us) _ _ (E σ) (hr.make C us [])
    (I2.env0.make C us []) bb r2 hq) fun r s' hq' => ?_))
  cases r with
  | error e => exact hx σ pins _ _ e s' I2 hq'
  | ok fl =>
    cases fl with
    | ret u =>
      obtain ⟨v, H', I3, rv, ev, q3⟩ := I2.after hq'
      subst ev
      exact ⟨rv, ⟨V.ref (s1.heap.objs.size + 1), H', I3, rfl, q3⟩⟩
    | next => exact False.elim hq'
    | brk => exact False.elim hq'
    | cont => exact False.elim hq'
end
end L2
namespace Oh
open PySem PySem.Spec PyProof.Rows L2
/-- isinstance(e, C), e no exception -/
def tIsR (K : PySem.W.Frag) (cv : Value) (te : TE) : TE := fun σ H Q => te σ H fun x H1 => ∃ (t : Value) (b : Bool), TyX K H1 x t ∧ PySem.W.kitOne K t cv = some b ∧ Q (.bl b) H1
section
variable {X : Cx} {e : Expr} {x : Str} {C : Addr} {te : TE} {p q pos : Pos}
theorem pe_isr (he : PE X e te) (mo : Mono te) (hi : X.mg "isinstance" = none) (hm : X.mg x = some (.ref C)) (hgi : Gl X "isinstance" := by rfl) (hg : Gl X x := by rfl) (hd : (x == ("__debug__" : Str)) = false := by decide)
    (h1 : starEach [e, .Name x q] X.env = (false, eval e X.env) :: starEach [.Name x q] X.env := by rfl) (h2 : (backTo pos (starEach [.Name x q] X.env)).any (·.1) = false := by rfl) (h3 : starEach [.Name x q] X.env = (false, eval (.Name x q) X.env) :: starEach [] X.env := by rfl) :
    PE X (.Call (.Name "isinstance" p) [e, .Name x q] [] pos) (tIsR X.K (.ref C) te) := by
  refine PE.imp (pe_callB (r := rIsi X.K) (hc := call_isi) hgi hi (by decide +kernel) (pa_cons he (pa_cons (pe_glob (v := .ref C) hg hm rfl hd) pa_nil h3) h1) (he := h1) (hpl := h2)) fun σ H Q w => mo σ H _ _ (fun v H' ⟨t, b, ty, k, qq⟩ => ⟨v, .ref C, t, .ref C, b, rfl, .own C, ty, k, qq⟩) w
end
/-- what the class of routines says of isinstance -/
structure RIs (K : PySem.W.Frag) (hR : Addr) : Prop where
  ha : PySem.W.findIn K (.ref hR) "__class__" = some (some (.builtin "object.__class__"))
  hn : PySem.W.specialIn K (.builtin "object.__class__") "__get__" = some (some (.builtin "getset_descriptor.__get__"))
  ht : PySem.W.takesIn K (.builtin "object.__class__") = some true
  hm : PySem.W.mroIn K hR (.type "object") = some true
  kt : PySem.W.kitOne K (.ref hR) (.ref hR) = some true
/-- a routine over the block of home -/
def RoutB (H : Hp) (hR r : Addr) : Prop := ∃ B S, RoutH H hR r B ∧ HomeB H B S
theorem RoutB.keep {H H' : Hp} {hR r : Addr} (h : RoutB H hR r) (s : Same H H') : RoutB H' hR r := by
  obtain ⟨B, S, ⟨dx, fs, h1, h2⟩, h3⟩ := h
  exact ⟨B, S, ⟨dx, fs, s _ _ h1, h2⟩, h3.keep s⟩
def spREq (hR : Addr) : Sp := fun vs H Q _ => ∃ r, vs = [.ref r, .ref r] ∧ RoutB H hR r ∧ Q (.bl true) H
theorem home_eq : SeqAt.shaped (PyData.tuple [PyData.tuple [PyData.str "home"]]) = true ∧ PyData.eqv (PyData.tuple [PyData.tuple [PyData.str "home"]]) (PyData.tuple [PyData.tuple [PyData.str "home"]]) = true := by decide +kernel
theorem home_dp {K : PySem.W.Frag} {H : Hp} {B S : Addr} (h : HomeB H B S) : Dp K H (.ref B) (PyData.tuple [PyData.tuple [PyData.str "home"]]) :=
  .tup (SqT.of h.1) (.cons (.tup (SqT.of h.2) (.cons (.str _) .nil)) .nil)
section
variable {P : Program} {w : World} {K : PySem.W.Frag} {mg : Str → Option Value} {base : Heap} {hR hBR : Addr}
theorem scREq : FnScope ["self", "other"] ["self", "other"] (defScope sREq) := ⟨rfl, rfl, rfl, by decide +kernel, rfl, by decide +kernel, by decide +kernel⟩
theorem ok_req {f : Addr} {fd : FuncData} (F : Fun K "__eq__" "Routine.__eq__" sREq f fd) (T : RCls K hR) (TI : RIs K hR) (mi : mg "isinstance" = none) (mR : mg "Routine" = some (.ref hR)) : FnOk P w K mg base CX0 1 f fd ["self", "other"] (spREq hR) := by
  refine F.ok scREq (fun vs H Q E h => ?_) (fun cdv A outer s H vs Q E hr h => ?_)
  · obtain ⟨r, rfl, _⟩ := h
    rfl
  · obtain ⟨r, rfl, ⟨B, S, ⟨dx, fs, h1, h2⟩, hB⟩, k⟩ := h
    have hu := hr.units
    refine ⟨_, pss_one (ps_ret (pe_and (pe_isr (pv 1) mono_var mi mR) (pe_one (pe_cmpR (op_eqD hu) (pe_fld (pv 0) rfl) (pe_fld (pv 1) rfl) (nomark _))))), ?_⟩
    refine ⟨_, rfl, _, _, .base (.ins h1 T.cl TI.ha TI.hn TI.ht TI.hm), TI.kt, _, rfl, iteT ?_⟩
    refine ⟨_, rfl, r, hR, dx, fs, _, rfl, h1, T.cl, T.n1, h2, _, rfl, r, hR, dx, fs, _, rfl, h1, T.cl, T.n1, h2, _, _, home_dp hB, home_dp hB, home_eq.1, home_eq.1, ?_⟩
    rw [home_eq.2]
    exact k
/-- a list is refused with () -/
def spCaught : Sp := fun vs H Q _ => ∃ (p : Addr) (xs : List V), vs = [.ref p] ∧ H p = some (.lst xs) ∧ ∀ F q H', Same H H' → H' F = some (.tup [.str "refused", .ref q]) → H' q = some (.tup []) → Q (.ref F) H'
abbrev nCa : List Str := ["_law_value", "_law_found", "e"]
theorem scCaught : FnScope nCa ["_law_value"] (defScope sCaught) := ⟨rfl, rfl, rfl, by decide +kernel, rfl, by decide +kernel, by decide +kernel⟩
theorem ok_caught {f fI f1 hC : Addr} {fd fdI : FuncData} (F : Fun K "_law_caught" "_law_caught" sCaught f fd) (M : Mk K hR fI) (GI : FnOk P w K mg base (L2.CX P w) 7 fI fdI ["self", "block"] (spInit hR hBR)) (bI : Binds K fdI ["self", "block"] [])
    (mR : mg "Routine" = some (.ref hR)) (mH : mg "HeardError" = some (.ref hC)) (TE : ErrC K f1 hBR) (te : PySem.W.exmOne K (.ref hBR) (.ref hC) = some true) : FnOk P w K mg base CX0 9 f fd ["_law_value"] spCaught := by
  refine F.ok scCaught (fun vs H Q E h => ?_) (fun cdv A outer s H vs Q E hr h => ?_)
  · obtain ⟨p, xs, rfl, _⟩ := h
    rfl
  · obtain ⟨p, xs, rfl, hp, k⟩ := h
    refine ⟨_, pss_cons (ps_set (i := 1) scCaught.nd rfl (Or.inl rfl) (pe_tup (pa_cons pe_str (pa_cons pe_non pa_nil))))
      (pss_cons (ps_try_as (i := 2) (tb := fun W => tDrop (tMakeS hR (spInit hR hBR) (WE W) (tCons (tVar 0) tNil))) (ts := fun a cls d => tAsg (tTup (tCons (tC (.str "refused")) (tCons (tXf a cls d hBR "what" (tVar 2)) tNil))) (gName 1)) (Wout := fun _ _ _ _ => False) rfl rfl scCaught.nd rfl rfl ⟨rfl, by decide, Or.inl mH⟩ takes0
          (fun W pn xe tk _ => pss_one (ps_expr (pe_makeS M GI hr rfl mR bI (fun σ => passAt tk σ) (by exact (pa_cons (pv 0) pa_nil)))))
          (fun a oe cls d pn hz hf => pss_one (ps_set (i := 1) scCaught.nd rfl (Or.inl rfl) (by exact (pe_tup (pa_cons pe_str (pa_cons (pe_xf TE.xf TE.no hz hf (pv 2)) pa_nil)))))))
      (pss_one (ps_ret (pv 1)))), ?_⟩
    refine ⟨(by show 2 ≤ sizeLine; decide), fun q nq => ?_⟩
    have s1 : Same H (upd H q (.tup [.str "let", .non])) := Same.new nq
    refine ⟨_, rfl, fun x dx nx nd ne => ?_⟩
    have s2 : Same (upd H q (.tup [.str "let", .non])) (upd (upd (upd H q (.tup [.str "let", .non])) dx (.own x)) x (.ins hR dx [])) := (Same.new nd).trans (Same.new (by rw [upd_ne (Ne.symm ne)]; exact nx))
    have xp : x ≠ p := fun z => by
      subst z
      cases (s1 _ _ hp).symm.trans nx
    refine ⟨x, p, dx, rfl, xp, upd_same, .inr ⟨xs, s2 _ _ (s1 _ _ hp), fun d q2 H' s3 ed eq => ⟨true, te, fun _ a0 _ => ?_, fun z => Bool.noConfusion z⟩⟩⟩
    refine ⟨_, rfl, rfl, rfl, d, _, .ref q2, rfl, ed, (by simp [List.lookup]), (by show 2 ≤ sizeLine; decide), fun G nG => ?_⟩
    exact ⟨_, rfl, k G q2 _ (s1.trans (s2.trans (s3.trans (Same.new nG)))) upd_same ((Same.new nG) _ _ eq)⟩
end
end Oh
namespace Oh
open PySem PySem.Spec PyProof.Rows L2
def spLaw (K : PySem.W.Frag) : Sp := fun vs H Q _ => ∃ (a : Addr) (ns : List Int), vs = [.ref a] ∧ SqL K H a (ns.map V.int) ∧ ns.length ≤ 63 ∧ ∀ H', Q (.bl true) H'
abbrev nLw : List Str := ["_law_script", "_law_source_here", "_law_first", "_law_second", "_law_base", "_law_routine", "_law_found"]
theorem scLaw : FnScope nLw ["_law_script"] (defScope sLaw) := ⟨rfl, rfl, rfl, by decide +kernel, rfl, by decide +kernel, by decide +kernel⟩
/-- a def of the text, by its promise -/
structure Def (P : Program) (w : World) (K : PySem.W.Frag) (mg : Str → Option Value) (base : Heap) (CX : CXT) (k : Nat) (x : Str) (ps : List Str) (sp : Sp) : Prop where
  ex : ∃ f fd, FnOk P w K mg base CX k f fd ps sp ∧ PySem.W.keepIn K (.ref f) = true ∧ Binds K fd ps [] ∧ mg x = some (.ref f)
section
variable {P : Program} {w : World} {K : PySem.W.Frag} {mg : Str → Option Value} {base : Heap} {hR hC f1 fI fQ : Addr} {cs : Nat → Addr} {fd1 fdI fdQ : FuncData}
theorem ok_law {f : Addr} {fd : FuncData} (F : Fun K "law" "law" sLaw f fd) (TI : TxtI mg) (TE : TxtE K mg f1 cs) (TH : ErrC K f1 hC) (mH : mg "HeardError" = some (.ref hC)) (mV : mg "ValueError" = none) (mR : mg "Routine" = some (.ref hR))
    (k0 : ∀ k, k < 23 → PySem.W.kitOne K (.ref hC) (.ref (cs k)) = some false) (kV : PySem.W.kitOne K (.ref hC) (.type "ValueError") = some true)
    (F1 : EInit K f1 fd1) (M : Mk K hR fI) (GI : FnOk P w K mg base (L2.CX P w) 7 fI fdI ["self", "block"] (spInit hR (cs 0))) (bI : Binds K fdI ["self", "block"] [])
    (TN : OwnNe K hR fQ) (GQ : FnOk P w K mg base CX0 1 fQ fdQ ["self", "other"] (spREq hR)) (bQ : Binds K fdQ ["self", "other"] [])
    (DS : Def P w K mg base CX0 1 "_law_source" ["_law_script"] (spSource K)) (DO : Def P w K mg base CX0 6 "_law_odd" ["_law_source_here", "_law_deep"] (spOdd 3))
    (DB : Def P w K mg base CX0 3 "_law_bare" ([] : List Str) (spErrs 0 cs)) (DP : Def P w K mg base CX0 3 "_law_placed" ["_law_value"] (spErrs 1 cs)) (DN : Def P w K mg base CX0 3 "_law_named" ["_law_value"] (spErrs 1 cs))
    (DR : Def P w K mg base CX0 6 "_law_right" ["_law_errors", "_law_due"] (spRight cs)) (DF : Def P w K mg base CX0 2 "_law_flags" ["_law_error"] (spF1 K cs 23)) (DV : Def P w K mg base CX0 5 "_law_same_value" ["_law_actual", "_law_due"] (spSame 3))
    (DA : Def P w K mg base CX0 1 "_law_alike" ["_law_actual", "_law_due"] (spAlike K)) (DC : Def P w K mg base CX0 9 "_law_caught" ["_law_value"] spCaught) :
    FnOk P w K mg base CX0 10 f fd ["_law_script"] (spLaw K) := by
  obtain ⟨fS, fdS, GS, kS, bS, mS⟩ := DS.ex
  obtain ⟨fO, fdO, GO, kO, bO, mO⟩ := DO.ex
  obtain ⟨fB, fdB, GB, kB, bB, mB⟩ := DB.ex
  obtain ⟨fP, fdP, GP, kP, bP, mP⟩ := DP.ex
  obtain ⟨fN, fdN, GN, kN, bN, mN⟩ := DN.ex
  obtain ⟨fR, fdR, GR, kR, bR, mRi⟩ := DR.ex
  obtain ⟨fF, fdF, GF, kF, bF, mF⟩ := DF.ex
  obtain ⟨fV, fdV, GV, kVv, bV, mVv⟩ := DV.ex
  obtain ⟨fA, fdA, GA, kA, bA, mA⟩ := DA.ex
  obtain ⟨fC, fdC, GC, kC, bC, mC⟩ := DC.ex
  have GE : FnOk P w K mg base CX0 1 f1 fd1 ["self", "what"] (spEInit K f1) := ok_einit F1
  obtain ⟨ds1, v1, b1⟩ := b_einit1 F1
  have b2 := b_einit2 F1
  obtain ⟨gg, bK⟩ := b_einitK F1
  refine F.ok scLaw (fun vs H Q E h => ?_) (fun cdv A outer s H vs Q E hr h => ?_)
  · obtain ⟨a, ns, rfl, _⟩ := h
    rfl
  · obtain ⟨a, ns, rfl, hs, hl, k⟩ := h
    have hr1 : Room 1 _ := hr.mono (by decide)
    have hr2 : Room 2 _ := hr.mono (by decide)
    have hr3 : Room 3 _ := hr.mono (by decide)
    have hr5 : Room 5 _ := hr.mono (by decide)
    have hr6 : Room 6 _ := hr.mono (by decide)
    have hr8 : Room 8 _ := hr.mono (by decide)
    have hu := hu_of hr1
    refine ⟨_, pss_cons (ps_set (i := 1) scLaw.nd rfl (Or.inl rfl) (pe_call GS hr1 (by rfl) mS kS bS .nil pass0 (pa_cons (pv 0) pa_nil)))
      (pss_cons (ps_set (i := 2) scLaw.nd rfl (Or.inl rfl) (pe_call GO hr6 (by rfl) mO kO bO .nil pass0 (pa_cons (pv 1) (pa_cons pe_int pa_nil))))
      (pss_cons (ps_set (i := 3) scLaw.nd rfl (Or.inl rfl) (pe_call GO hr6 (by rfl) mO kO bO .nil pass0 (pa_cons (pv 1) (pa_cons pe_int pa_nil))))
      (pss_cons (ps_if (pw_or (pt_not (pt_val (pe_call GR hr6 (by rfl) mRi kR bR .nil pass0 (pa_cons (pe_call0 GB hr3 (by rfl) mB kB bB .nil pass0) (pa_cons pe_non pa_nil)))))
          (pw_or1 (pt_not (pt_val (pe_call GR hr6 (by rfl) mRi kR bR .nil pass0 (pa_cons (pe_call GP hr3 (by rfl) mP kP bP .nil pass0 (pa_cons (pv 2) pa_nil)) (pa_cons (pv 2) pa_nil))))))).pt (pss_one (ps_ret pe_bl)) pss_nil)
      (pss_cons (ps_if (pt_not (pt_val (pe_call GR hr6 (by rfl) mRi kR bR .nil pass0 (pa_cons (pe_call GN hr3 (by rfl) mN kN bN .nil pass0 (pa_cons (pv 3) pa_nil)) (pa_cons (pv 3) pa_nil))))) (pss_one (ps_ret pe_bl)) pss_nil)
      (pss_cons (ps_set (i := 4) scLaw.nd rfl (Or.inl rfl) (pe_err1 (g := fun σ v => σ[3]? = some (some v)) TH TE.t1 GE hr2 b2 mH (pv 3) (fun σ H Q ⟨v, e, q⟩ => ⟨v, e, q⟩)))
      (pss_cons (ps_if (pw_or (pt_cmpR op_in_seq pe_bl (pe_call GF hr2 (by rfl) mF kF bF .nil pass0 (pa_cons (pv 4) pa_nil)) (by rfl))
          (pw_or (pt_not (pt_val (pe_isb (pv 4) mono_var TI.isi mV bb_ValueError)))
          (pw_or1 (pt_not (pt_val (pe_call GV hr5 (by rfl) mVv kVv bV .nil pass0 (pa_cons (pe_efld (pv 4)) (pa_cons (pv 3) pa_nil)))))))).pt (pss_one (ps_ret pe_bl)) pss_nil)
      (pss_cons (ps_if (pw_or (pt_cmpR op_notN (pe_efld (pe_err0 TH TE.t1 GE hr2 b1 v1 mH)) pe_non (nomark _))
          (pw_or1 (pt_not (pt_val (pe_call GV hr5 (by rfl) mVv kVv bV .nil pass0 (pa_cons (pe_efld (pe_errK (g := fun σ v => σ[2]? = some (some v)) TH TE.t1 GE hr2 bK mH (pv 2) (fun σ H Q ⟨v, e, q⟩ => ⟨v, e, q⟩))) (pa_cons (pv 2) pa_nil))))))).pt (pss_one (ps_ret pe_bl)) pss_nil)
      (pss_cons (ps_set (i := 5) scLaw.nd rfl (Or.inl rfl) (pe_make M GI hr8 (by rfl) mR bI .nil passL (pa_cons (pe_tup (pa_cons (pe_tup (pa_cons pe_str pa_nil)) pa_nil)) pa_nil)))
      (pss_cons (ps_if (pt_cmpR (op_neOwn TN GQ bQ hr2 hu) (pe_efld (pe_err1 (C := cs 8) (g := fun σ v => σ[5]? = some (some v)) (TE.ec 8 (by decide)) TE.t1 GE hr2 b2 (TE.nm 8 (by decide)) (pv 5) (fun σ H Q ⟨v, e, q⟩ => ⟨v, e, q⟩))) (pv 5) (nomark _)) (pss_one (ps_ret pe_bl)) pss_nil)
      (pss_cons (ps_set (i := 6) scLaw.nd rfl (Or.inl rfl) (pe_call GC hr (by rfl) mC kC bC .nil pass0 (pa_cons (pe_lst (pa_cons (pv 2) pa_nil)) pa_nil)))
      (pss_one (ps_ret (pe_and (pe_cmpR op_eq (pe_ix ix_tup (pv 6) pe_int (fun _ _ => rfl)) pe_str (nomark _)) (pe_one (pe_call GA hr1 (by rfl) mA kA bA .nil pass0 (pa_cons (pe_ix ix_tup (pv 6) pe_int (fun _ _ => rfl)) (pa_cons (pe_tup pa_nil) pa_nil))))))))))))))))), ?_⟩
    refine ⟨_, rfl, a, ns, rfl, hs, hl, fun p c H1 s1 src1 => ?_⟩
    refine ⟨_, rfl, p, c, rfl, src1, fun w1 H2 o1 src2 k1 => ?_⟩
    refine ⟨_, rfl, p, c, rfl, src2, fun w2 H3 o2 src3 k2 => ?_⟩
    have np : ∀ q, H1 q = none → q ≠ p ∧ q ≠ c := fun q nq => by
      obtain ⟨_, ns1, i, sm, kk, e1, e2, _⟩ := src1
      exact ⟨fun z => (by subst z; cases nq.symm.trans e1), fun z => (by subst z; cases nq.symm.trans e2)⟩
    have ov1 : OV H3 (fun _ => True) 3 w1 := OV.keep (fun q o fq e => k2 _ _ e (np q fq).1 (np q fq).2) (fun _ _ => trivial) o1
    have ov2 : OV H3 (fun _ => True) 3 w2 := OV.keep (fun q o _ e => e) (fun _ _ => trivial) o2
    have kp : ∀ {Ha Hb : Hp} {v : V}, Same Ha Hb → OV Ha (fun _ => True) 3 v → OV Hb (fun _ => True) 3 v := fun s o => OV.keep (fun q o _ e => s _ _ e) (fun _ z => z) o
    -- right(bare(), None), right(placed(first), first)
    refine ⟨.non, fun _ => ⟨rfl, rfl⟩, fun z => absurd z (by decide), by decide, fun pb as Hb sb nb lb eb => ⟨pb, .non, as, rfl, lb, eb, OV.flat (.inl rfl) 3, fun H4 s4 => ⟨_, rfl, iteF ?_⟩⟩⟩
    have S4 := sb.trans s4
    refine ⟨_, rfl, w1, fun z => absurd z (by decide), fun _ => rfl, by decide, fun pb as Hb sb nb lb eb => ⟨_, rfl, pb, w1, as, rfl, lb, eb, kp (S4.trans sb) ov1, fun H5 s5 => ⟨_, rfl, iteF ?_⟩⟩⟩
    have S5 := S4.trans (sb.trans s5)
    -- right(named(second), second)
    refine ⟨_, rfl, w2, fun z => absurd z (by decide), fun _ => rfl, by decide, fun pb as Hb sb nb lb eb => ⟨_, rfl, pb, w2, as, rfl, lb, eb, kp (S5.trans sb) ov2, fun H6 s6 => ⟨_, rfl, iteF ?_⟩⟩⟩
    have S6 := S5.trans (sb.trans s6)
    -- HeardError(second)
    refine ⟨w2, rfl, fun eb H7 nb s7 ebat => ?_⟩
    have S7 := S6.trans s7
    have lk : ∀ v : V, List.lookup ("what" : Str) [(("what" : Str), v)] = some v := fun v => by simp [List.lookup]
    -- True in flags(base), isinstance(base, ValueError), base.what
    refine ⟨_, rfl, eb, hC, fun _ => false, rfl, ebat.is, TH.ec, k0, fun pf H8 s8 n8 l8 => ⟨pf, _, rfl, .inl (SqL.of l8), rfl, (by decide +kernel), _, rfl, ite2 (fun z => absurd z (by decide +kernel)) fun _ => ?_⟩⟩
    have S8 := S7.trans s8
    have eb8 := ebat.keep s8
    refine ⟨_, rfl, eb, hC, true, rfl, eb8.is, TH.ec, kV, _, rfl, iteF ?_⟩
    obtain ⟨d8, x8, y8⟩ := id eb8
    refine ⟨_, rfl, eb, hC, d8, _, w2, rfl, x8, y8, TH.xf, TH.no, lk w2, _, rfl, w2, rfl, kp S8 ov2, fun H9 s9 => ⟨_, rfl, iteF ?_⟩⟩
    have S9 := S8.trans s9
    -- HeardError().what, HeardError(what=first).what
    refine ⟨.non, rfl, fun e2 Ha _ sa ⟨da, xa, ya⟩ => ⟨e2, hC, da, _, .non, rfl, xa, ya, TH.xf, TH.no, lk .non, rfl, _, rfl, ite2 (fun z => absurd z (by decide)) fun _ => ?_⟩⟩
    refine ⟨w1, rfl, fun e3 Hb _ sb ⟨db, xb, yb⟩ => ⟨e3, hC, db, _, w1, rfl, xb, yb, TH.xf, TH.no, lk w1, _, rfl, w1, rfl, kp ((S9.trans sa).trans sb) ov1, fun H10 s10 => ⟨_, rfl, iteF ?_⟩⟩⟩
    have S10 := ((S9.trans sa).trans sb).trans s10
    -- Routine((("home",),))
    refine ⟨(by show 1 ≤ sizeLine; decide), fun S nS => ⟨(by show 1 ≤ sizeLine; decide), fun B nB x dx nx nd ne => ?_⟩⟩
    have hB0 : HomeB (upd (upd H10 S (.tup [.str "home"])) B (.tup [.ref S])) B S := ⟨upd_same, (Same.new nB) _ _ upd_same⟩
    have sB : Same H10 (upd (upd H10 S (.tup [.str "home"])) B (.tup [.ref S])) := (Same.new nS).trans (Same.new nB)
    have sX : Same (upd (upd H10 S (.tup [.str "home"])) B (.tup [.ref S])) (upd (upd (upd (upd H10 S (.tup [.str "home"])) B (.tup [.ref S])) dx (.own x)) x (.ins hR dx [])) :=
      (Same.new nd).trans (Same.new (by rw [upd_ne (Ne.symm ne)]; exact nx))
    have xB : x ≠ B := fun z => by
      subst z
      cases hB0.1.symm.trans nx
    have xS : x ≠ S := fun z => by
      subst z
      cases (show _ = some (HO.tup [.str "home"]) from hB0.2).symm.trans nx
    refine ⟨x, B, dx, rfl, xB, upd_same, .inl ⟨S, hB0.keep sX, fun H11 hk hro => ⟨rfl, ?_⟩⟩⟩
    have S11 : Same (upd (upd H10 S (.tup [.str "home"])) B (.tup [.ref S])) H11 := fun b o e => hk b o (sX _ _ e) (ne_of_none e nx)
    have rb : RoutB H11 hR x := ⟨B, S, hro, hB0.keep S11⟩
    have T11 := S10.trans (sB.trans S11)
    -- BadOwn(routine).what != routine
    refine ⟨.ref x, rfl, fun e4 H12 _ s12 ⟨d4, x4, y4⟩ => ?_⟩
    have rb' := rb.keep s12
    obtain ⟨B', S', ⟨dx', fs', r1, r2⟩, r3⟩ := id rb'
    refine ⟨e4, cs 8, d4, _, .ref x, rfl, x4, y4, (TE.ec 8 (by decide)).xf, (TE.ec 8 (by decide)).no, lk _, _, rfl, x, x, dx', dx', fs', fs', rfl, rfl, r1, r1, ⟨x, rfl, rb', true, rfl, _, rfl, ite2 (fun z => absurd z (by decide)) fun _ => ?_⟩⟩
    -- caught([first])
    refine ⟨_, rfl, (by show 1 ≤ sizeLine; decide), fun L nL => ⟨L, _, rfl, upd_same, fun G q H13 s13 e1 e2 => ?_⟩⟩
    refine ⟨_, rfl, G, _, _, _, rfl, rfl, SqT.of e1, rfl, rfl, _, rfl, ite2 (fun _ => ?_) (fun z => absurd (by decide) z)⟩
    refine ⟨_, rfl, G, _, _, _, rfl, rfl, SqT.of e1, rfl, by decide, fun q2 nq2 => ⟨.ref q, .ref q2, rfl, .inr ⟨q, q2, rfl, rfl, (Same.new nq2) _ _ e2, upd_same⟩, fun H14 _ => ?_⟩⟩
    exact k H14
end
end Oh
namespace Oh
open PySem PySem.Spec PyProof.Rows L2
/-- a def as the top has left it -/
structure DefF (K : PySem.W.Frag) (x qual : Str) (st : Stmt) (f : Addr) : Prop where
  ex : ∃ (oc : Value) (od : Option Addr) (kV dc pm : Value) (an : Option Addr) (cd ct : Value) (sl : Array (Option Value)), K.lookup f = some ⟨oc, od, .func (PySem.W.fnOf x qual (defArgs st) (defBody st) (defScope st) .none kV dc pm an cd ct), sl⟩ ∧ PySem.W.codeIn K cd qual = true
  kp : PySem.W.keepIn K (.ref f) = true
theorem DefF.fn {K : PySem.W.Frag} {x qual : Str} {st : Stmt} {f : Addr} (d : DefF K x qual st f) : ∃ fd, Fun K x qual st f fd ∧ ∃ kV dc pm an cd ct, fd = PySem.W.fnOf x qual (defArgs st) (defBody st) (defScope st) .none kV dc pm an cd ct := by
  obtain ⟨⟨oc, od, kV, dc, pm, an, cd, ct, sl, l, c⟩, k⟩ := d
  exact ⟨_, fun_mk l c k, kV, dc, pm, an, cd, ct, rfl⟩
theorem def_mk {K : PySem.W.Frag} {x qual : Str} {st : Stmt} {f : Addr} {oc : Value} {od : Option Addr} {kV dc pm : Value} {an : Option Addr} {cd ct : Value} {sl : Array (Option Value)}
    (l : K.lookup f = some ⟨oc, od, .func (PySem.W.fnOf x qual (defArgs st) (defBody st) (defScope st) .none kV dc pm an cd ct), sl⟩) (c : PySem.W.codeIn K cd qual = true) (k : PySem.W.keepIn K (.ref f) = true) : DefF K x qual st f := ⟨⟨oc, od, kV, dc, pm, an, cd, ct, sl, l, c⟩, k⟩
theorem err_mk {K : PySem.W.Frag} {f1 C N : Addr} {nm q : Str} {bs bm : List Value} {sn : List Str} {sub : List Value} {ab : Bool} {col : Option Bool} {dd : Option Addr} {k0 k1 k2 k3 k5 : Option Value}
    (xL : K.lookup C = some (excClassObj nm q C N bs bm true sn sub ab col dd k0 k1 k2 k3 k5 "ValueError.__new__")) (rf : PySem.HandSPX.refsVE bm = true) (sa : PySem.W.findIn K (.ref C) "__setattr__" = some (some (.builtin "object.__setattr__"))) (ex : PySem.W.subIn K (.ref C) (.type "BaseException") = some true) (ty : PySem.W.typeIn K (.ref C) = some (.type "type"))
    (kC : PySem.W.keepIn K (.ref C) = true) (ga : PySem.W.findIn K (.ref C) "__getattribute__" = some (some (.builtin "BaseException.__getattribute__"))) (gg : PySem.W.findIn K (.ref C) "__getattr__" = some none) (hd : PySem.W.hasDictIn K C = true) (ha : PySem.W.findIn K (.ref C) "__class__" = some (some (.builtin "object.__class__")))
    (hn : PySem.W.specialIn K (.builtin "object.__class__") "__get__" = some (some (.builtin "getset_descriptor.__get__"))) (ht : PySem.W.takesIn K (.builtin "object.__class__") = some true) (hm : PySem.W.mroIn K C (.type "object") = some true) (no : PySem.W.findIn K (.ref C) "what" = some none) (ini : PySem.W.findIn K (.ref C) "__init__" = some (some (.ref f1))) : ErrC K f1 C :=
  ⟨⟨⟨nm, q, N, bs, bm, sn, sub, ab, col, dd, k0, k1, k2, k3, k5, xL, rf⟩, sa, ex, ty, kC⟩, ⟨ga, gg, ex, hd, ha, hn, ht, hm⟩, ⟨ga, gg, ex, hd⟩, no, ini⟩
theorem einit_mk {K : PySem.W.Frag} {f T : Addr} {oc kV dc pm cd ct : Value} {od an : Option Addr} {sl : Array (Option Value)} {o : Obj} {n : Nat} (l : K.lookup f = some ⟨oc, od, .func (PySem.W.fnOf "__init__" "HeardError.__init__" (defArgs sEInit) (defBody sEInit) (defScope sEInit) (.ref T) kV dc pm an cd ct), sl⟩)
    (c : PySem.W.codeIn K cd "HeardError.__init__" = true) (tl : K.lookup T = some o) (od' : o.data = .seq #[.none] n) (k : PySem.W.keepIn K (.ref f) = true) : ∃ fd1, EInit K f fd1 :=
  ⟨_, ⟨oc, od, .ref T, kV, dc, pm, an, cd, ct, sl, rfl, l, c, .inr ⟨(fun z => nomatch z), T, o, [.none], n, rfl, tl, od', .cons rfl .nil⟩, .inl rfl⟩, k⟩
theorem kd_mk {K : PySem.W.Frag} {w : World} {ck fw : Addr} {es : Array DictEntry} {n : Nat} (l : K.lookup ck = some ⟨.type "dict", none, .dict es n, #[]⟩) (kl : PySem.W.KeysLit w.params es.toList) (e : PySem.W.nsIn K ck "home" = some (some (.ref fw))) : KDct K w ck "home" (.ref fw) := ⟨es, n, _, l, kl, e, rfl⟩
/-- how the classes of errors stand to one another -/
def kitsB (K : PySem.W.Frag) (l : List Addr) (hC : Addr) : Bool :=
  ((List.range 23).all fun i => (List.range 23).all fun j => decide (PySem.W.kitOne K (.ref (l.getD i 0)) (.ref (l.getD j 0)) = some (decide (j = i)))) &&
  ((List.range 23).all fun i => decide (PySem.W.kitOne K (.ref (l.getD i 0)) (.ref hC) = some true) && (decide (PySem.W.kitOne K (.ref (l.getD i 0)) (.type "ValueError") = some true) && decide (PySem.W.kitOne K (.ref hC) (.ref (l.getD i 0)) = some false)))
theorem kits_of {K : PySem.W.Frag} {l : List Addr} {hC : Addr} (h : kitsB K l hC = true) : KitE K (fun k => l.getD k 0) hC ∧ ∀ k, k < 23 → PySem.W.kitOne K (.ref hC) (.ref (l.getD k 0)) = some false := by
  obtain ⟨h1, h2⟩ := Bool.and_eq_true_iff.mp h
  have h2' : ∀ i, i < 23 → _ := fun i hi => Bool.and_eq_true_iff.mp (List.all_eq_true.mp h2 i (List.mem_range.mpr hi))
  exact ⟨⟨fun i j hi hj => of_decide_eq_true (List.all_eq_true.mp (List.all_eq_true.mp h1 i (List.mem_range.mpr hi)) j (List.mem_range.mpr hj)), fun i hi => of_decide_eq_true (h2' i hi).1, fun i hi => of_decide_eq_true (Bool.and_eq_true_iff.mp (h2' i hi).2).1⟩,
    fun i hi => of_decide_eq_true (Bool.and_eq_true_iff.mp (h2' i hi).2).2⟩
theorem all_mk {P : Program} {w : World} {K : PySem.W.Frag} {h : Heap} {mg : Str → Option Value} {fa f1 hC hR fI fQ fL ck : Addr} {c0 c1 c2 c3 c4 c5 c6 c7 c8 c9 c10 c11 c12 c13 c14 c15 c16 c17 c18 c19 c20 c21 c22 fS fX fD fA fO fE fF fB fP fN fR fV fC fb fh fq fw fk fn fp ff fg fu fc fl fv : Addr} {t1 t2 t3 : Tok} (X : K.In h) (G : h.Ns mainGlobals mg) (hfa : mg "law" = some (.ref fa))
    (aL : PySem.W.nsIn K mainGlobals "law" = some (some (.ref fL))) (dL : DefF K "law" "law" sLaw fL)
    (aS : PySem.W.nsIn K mainGlobals "_law_source" = some (some (.ref fS))) (dS : DefF K "_law_source" "_law_source" sSource fS)
    (aX : PySem.W.nsIn K mainGlobals "_law_mixed" = some (some (.ref fX))) (dX : DefF K "_law_mixed" "_law_mixed" sMixed fX)
    (aD : PySem.W.nsIn K mainGlobals "_law_draw" = some (some (.ref fD))) (dD : DefF K "_law_draw" "_law_draw" sDraw fD)
    (aA : PySem.W.nsIn K mainGlobals "_law_alike" = some (some (.ref fA))) (dA : DefF K "_law_alike" "_law_alike" sAlike fA)
    (aO : PySem.W.nsIn K mainGlobals "_law_odd" = some (some (.ref fO))) (dO : DefF K "_law_odd" "_law_odd" sOdd fO)
    (aE : PySem.W.nsIn K mainGlobals "_law_first_flags" = some (some (.ref fE))) (dE : DefF K "_law_first_flags" "_law_first_flags" sFlags1 fE)
    (aF : PySem.W.nsIn K mainGlobals "_law_flags" = some (some (.ref fF))) (dF : DefF K "_law_flags" "_law_flags" sFlags fF)
    (aB : PySem.W.nsIn K mainGlobals "_law_bare" = some (some (.ref fB))) (dB : DefF K "_law_bare" "_law_bare" sBare fB)
    (aP : PySem.W.nsIn K mainGlobals "_law_placed" = some (some (.ref fP))) (dP : DefF K "_law_placed" "_law_placed" sPlaced fP)
    (aN : PySem.W.nsIn K mainGlobals "_law_named" = some (some (.ref fN))) (dN : DefF K "_law_named" "_law_named" sNamed fN)
    (aR : PySem.W.nsIn K mainGlobals "_law_right" = some (some (.ref fR))) (dR : DefF K "_law_right" "_law_right" sRight fR)
    (aV : PySem.W.nsIn K mainGlobals "_law_same_value" = some (some (.ref fV))) (dV : DefF K "_law_same_value" "_law_same_value" sSameV fV)
    (aC : PySem.W.nsIn K mainGlobals "_law_caught" = some (some (.ref fC))) (dC : DefF K "_law_caught" "_law_caught" sCaught fC)
    (ab : PySem.W.nsIn K mainGlobals "is_block" = some (some (.ref fb))) (db : DefF K "is_block" "is_block" sIsBlock fb)
    (ah : PySem.W.nsIn K mainGlobals "head_of" = some (some (.ref fh))) (dh : DefF K "head_of" "head_of" sHeadOf fh)
    (aq : PySem.W.nsIn K mainGlobals "is_statement" = some (some (.ref fq))) (dq : DefF K "is_statement" "is_statement" sIsStatement fq)
    (aw : PySem.W.nsIn K mainGlobals "_is_word" = some (some (.ref fw))) (dw : DefF K "_is_word" "_is_word" sIsWord fw)
    (ak : PySem.W.nsIn K mainGlobals "blocks_of" = some (some (.ref fk))) (dk : DefF K "blocks_of" "blocks_of" sBlocksOf fk)
    (an : PySem.W.nsIn K mainGlobals "names_of" = some (some (.ref fn))) (dn : DefF K "names_of" "names_of" sNamesOf fn)
    (ap : PySem.W.nsIn K mainGlobals "ports_of" = some (some (.ref fp))) (dp : DefF K "ports_of" "ports_of" sPortsOf fp)
    (af : PySem.W.nsIn K mainGlobals "first_wrong" = some (some (.ref ff))) (df : DefF K "first_wrong" "first_wrong" sFirstWrong ff)
    (ag : PySem.W.nsIn K mainGlobals "_is_wrong" = some (some (.ref fg))) (dg : DefF K "_is_wrong" "_is_wrong" sIsWrong fg)
    (au : PySem.W.nsIn K mainGlobals "_is_sound" = some (some (.ref fu))) (du : DefF K "_is_sound" "_is_sound" sIsSound fu)
    (ac : PySem.W.nsIn K mainGlobals "count_statements" = some (some (.ref fc))) (dc : DefF K "count_statements" "count_statements" sCount fc)
    (al : PySem.W.nsIn K mainGlobals "laid_out" = some (some (.ref fl))) (dl : DefF K "laid_out" "laid_out" sLaid fl)
    (av : PySem.W.nsIn K mainGlobals "_check" = some (some (.ref fv))) (dv : DefF K "_check" "_check" sCheck fv)
    (aH : PySem.W.nsIn K mainGlobals "HeardError" = some (some (.ref hC))) (n0 : PySem.W.nsIn K mainGlobals "BadRoutine" = some (some (.ref c0))) (n1 : PySem.W.nsIn K mainGlobals "NoPath" = some (some (.ref c1))) (n2 : PySem.W.nsIn K mainGlobals "NoStand" = some (some (.ref c2))) (n3 : PySem.W.nsIn K mainGlobals "NoPick" = some (some (.ref c3))) (n4 : PySem.W.nsIn K mainGlobals "NoTell" = some (some (.ref c4))) (n5 : PySem.W.nsIn K mainGlobals "NoPort" = some (some (.ref c5))) (n6 : PySem.W.nsIn K mainGlobals "NoDigit" = some (some (.ref c6))) (n7 : PySem.W.nsIn K mainGlobals "BadRoutines" = some (some (.ref c7))) (n8 : PySem.W.nsIn K mainGlobals "BadOwn" = some (some (.ref c8))) (n9 : PySem.W.nsIn K mainGlobals "BadOver" = some (some (.ref c9))) (n10 : PySem.W.nsIn K mainGlobals "NoWorld" = some (some (.ref c10))) (n11 : PySem.W.nsIn K mainGlobals "NoMove" = some (some (.ref c11))) (n12 : PySem.W.nsIn K mainGlobals "BadRun" = some (some (.ref c12))) (n13 : PySem.W.nsIn K mainGlobals "BadRow" = some (some (.ref c13))) (n14 : PySem.W.nsIn K mainGlobals "NoRow" = some (some (.ref c14))) (n15 : PySem.W.nsIn K mainGlobals "BadFact" = some (some (.ref c15))) (n16 : PySem.W.nsIn K mainGlobals "BadAim" = some (some (.ref c16))) (n17 : PySem.W.nsIn K mainGlobals "BadPlan" = some (some (.ref c17))) (n18 : PySem.W.nsIn K mainGlobals "Overheard" = some (some (.ref c18))) (n19 : PySem.W.nsIn K mainGlobals "BadPicks" = some (some (.ref c19))) (n20 : PySem.W.nsIn K mainGlobals "BadNames" = some (some (.ref c20))) (n21 : PySem.W.nsIn K mainGlobals "BadText" = some (some (.ref c21))) (n22 : PySem.W.nsIn K mainGlobals "TooMany" = some (some (.ref c22)))
    (i1 : PySem.W.findIn K (.ref hC) "__init__" = some (some (.ref f1))) (d1 : ∃ fd1, EInit K f1 fd1) (t0 : PySem.W.typeIn K (.ref f1) = some (.type "function")) (eH : ErrC K f1 hC) (e0 : ErrC K f1 c0) (e1 : ErrC K f1 c1) (e2 : ErrC K f1 c2) (e3 : ErrC K f1 c3) (e4 : ErrC K f1 c4) (e5 : ErrC K f1 c5) (e6 : ErrC K f1 c6) (e7 : ErrC K f1 c7) (e8 : ErrC K f1 c8) (e9 : ErrC K f1 c9) (e10 : ErrC K f1 c10) (e11 : ErrC K f1 c11) (e12 : ErrC K f1 c12) (e13 : ErrC K f1 c13) (e14 : ErrC K f1 c14) (e15 : ErrC K f1 c15) (e16 : ErrC K f1 c16) (e17 : ErrC K f1 c17) (e18 : ErrC K f1 c18) (e19 : ErrC K f1 c19) (e20 : ErrC K f1 c20) (e21 : ErrC K f1 c21) (e22 : ErrC K f1 c22)
    (kb : kitsB K [c0, c1, c2, c3, c4, c5, c6, c7, c8, c9, c10, c11, c12, c13, c14, c15, c16, c17, c18, c19, c20, c21, c22] hC = true) (xH : PySem.W.exmOne K (.ref c0) (.ref hC) = some true) (kV : PySem.W.kitOne K (.ref hC) (.type "ValueError") = some true)
    (aRo : PySem.W.nsIn K mainGlobals "Routine" = some (some (.ref hR))) (iI : PySem.W.findIn K (.ref hR) "__init__" = some (some (.ref fI))) (dI : DefF K "__init__" "Routine.__init__" sRInit fI) (iQ : PySem.W.findIn K (.ref hR) "__eq__" = some (some (.ref fQ))) (dQ : DefF K "__eq__" "Routine.__eq__" sREq fQ)
    (rc : RCls K hR) (ri : RIs K hR) (mkR : Mk K hR fI) (on : OwnNe K hR fQ)
    (aK : PySem.W.nsIn K mainGlobals "CHECKS" = some (some (.ref ck))) (kd : KDct K w ck "home" (.ref fw)) (lo : (ck == sysModules) = false)
    (g1 : PySem.W.nsIn K mainGlobals "LONGEST_BLOCK" = some (some (.int 12 t1))) (g2 : PySem.W.nsIn K mainGlobals "DEEPEST_BLOCK" = some (some (.int 12 t2))) (g3 : PySem.W.nsIn K mainGlobals "MOST_STATEMENTS" = some (some (.int 6000 t3)))
    (z0 : PySem.W.nsIn K mainGlobals "int" = some none) (z1 : PySem.W.nsIn K mainGlobals "len" = some none) (z2 : PySem.W.nsIn K mainGlobals "sum" = some none) (z3 : PySem.W.nsIn K mainGlobals "range" = some none) (z4 : PySem.W.nsIn K mainGlobals "tuple" = some none) (z5 : PySem.W.nsIn K mainGlobals "isinstance" = some none) (z6 : PySem.W.nsIn K mainGlobals "bool" = some none) (z7 : PySem.W.nsIn K mainGlobals "str" = some none) (z8 : PySem.W.nsIn K mainGlobals "list" = some none) (z9 : PySem.W.nsIn K mainGlobals "dict" = some none) (z10 : PySem.W.nsIn K mainGlobals "ValueError" = some none) (z11 : PySem.W.nsIn K mainGlobals "enumerate" = some none) (z12 : PySem.W.nsIn K mainGlobals "sorted" = some none) :
    ∃ fd : FuncData, (∀ (s : Shared) (v : Value), BindsTo s fd ⟨[v], []⟩ [("_law_script", v)]) ∧ ∀ base : Heap, K.In base → base.Ns mainGlobals mg → FnOk P w K mg base CX0 10 fa fd ["_law_script"] (spLaw K) := by
  have e := hfa.symm.trans (PySem.W.mg_of X G aL)
  cases e
  have m0 := PySem.W.mg_none_of X G z0
  have m1 := PySem.W.mg_none_of X G z1
  have m2 := PySem.W.mg_none_of X G z2
  have m3 := PySem.W.mg_none_of X G z3
  have m4 := PySem.W.mg_none_of X G z4
  have m5 := PySem.W.mg_none_of X G z5
  have m6 := PySem.W.mg_none_of X G z6
  have m7 := PySem.W.mg_none_of X G z7
  have m8 := PySem.W.mg_none_of X G z8
  have m9 := PySem.W.mg_none_of X G z9
  have m10 := PySem.W.mg_none_of X G z10
  have m11 := PySem.W.mg_none_of X G z11
  have m12 := PySem.W.mg_none_of X G z12
  have TA : TxtA mg := ⟨m0, m1⟩
  have TO : TxtO mg := ⟨TA, m3, m4⟩
  have TI : TxtI mg := ⟨m5, m6, m0, m7, m4, m8, m9, m1, m3⟩
  have TP : TxtP mg := ⟨TI, ⟨t1, PySem.W.mg_of X G g1⟩, ⟨t2, PySem.W.mg_of X G g2⟩, ⟨t3, PySem.W.mg_of X G g3⟩, m2, m11⟩
  obtain ⟨KE, k0⟩ := kits_of kb
  have TE : TxtE K mg f1 (fun k => [c0, c1, c2, c3, c4, c5, c6, c7, c8, c9, c10, c11, c12, c13, c14, c15, c16, c17, c18, c19, c20, c21, c22].getD k 0) := ⟨m5, fun k hk => match k, hk with
    | 0, _ => PySem.W.mg_of X G n0
    | 1, _ => PySem.W.mg_of X G n1
    | 2, _ => PySem.W.mg_of X G n2
    | 3, _ => PySem.W.mg_of X G n3
    | 4, _ => PySem.W.mg_of X G n4
    | 5, _ => PySem.W.mg_of X G n5
    | 6, _ => PySem.W.mg_of X G n6
    | 7, _ => PySem.W.mg_of X G n7
    | 8, _ => PySem.W.mg_of X G n8
    | 9, _ => PySem.W.mg_of X G n9
    | 10, _ => PySem.W.mg_of X G n10
    | 11, _ => PySem.W.mg_of X G n11
    | 12, _ => PySem.W.mg_of X G n12
    | 13, _ => PySem.W.mg_of X G n13
    | 14, _ => PySem.W.mg_of X G n14
    | 15, _ => PySem.W.mg_of X G n15
    | 16, _ => PySem.W.mg_of X G n16
    | 17, _ => PySem.W.mg_of X G n17
    | 18, _ => PySem.W.mg_of X G n18
    | 19, _ => PySem.W.mg_of X G n19
    | 20, _ => PySem.W.mg_of X G n20
    | 21, _ => PySem.W.mg_of X G n21
    | 22, _ => PySem.W.mg_of X G n22
    | k + 23, h => absurd h (by omega), fun k hk => match k, hk with
    | 0, _ => e0
    | 1, _ => e1
    | 2, _ => e2
    | 3, _ => e3
    | 4, _ => e4
    | 5, _ => e5
    | 6, _ => e6
    | 7, _ => e7
    | 8, _ => e8
    | 9, _ => e9
    | 10, _ => e10
    | 11, _ => e11
    | 12, _ => e12
    | 13, _ => e13
    | 14, _ => e14
    | 15, _ => e15
    | 16, _ => e16
    | 17, _ => e17
    | 18, _ => e18
    | 19, _ => e19
    | 20, _ => e20
    | 21, _ => e21
    | 22, _ => e22
    | k + 23, h => absurd h (by omega), t0⟩
  obtain ⟨fd1, F1⟩ := d1
  obtain ⟨fdS, FS, _⟩ := dS.fn
  have bS : Binds K fdS ["_law_script"] [] := FS.binds fun _ _ _ _ _ _ us hl => match us, hl with | [_], _ => rfl
  obtain ⟨fdX, FX, _⟩ := dX.fn
  have bX : Binds K fdX ["_law_number", "_law_count"] [] := FX.binds fun _ _ _ _ _ _ us hl => match us, hl with | [_, _], _ => rfl
  obtain ⟨fdD, FD, _⟩ := dD.fn
  have bD : Binds K fdD ["_law_source_here", "_law_many"] [] := FD.binds fun _ _ _ _ _ _ us hl => match us, hl with | [_, _], _ => rfl
  obtain ⟨fdA, FA, _⟩ := dA.fn
  have bA : Binds K fdA ["_law_actual", "_law_due"] [] := FA.binds fun _ _ _ _ _ _ us hl => match us, hl with | [_, _], _ => rfl
  obtain ⟨fdO, FO, _⟩ := dO.fn
  have bO : Binds K fdO ["_law_source_here", "_law_deep"] [] := FO.binds fun _ _ _ _ _ _ us hl => match us, hl with | [_, _], _ => rfl
  obtain ⟨fdE, FE, _⟩ := dE.fn
  have bE : Binds K fdE ["_law_error"] [] := FE.binds fun _ _ _ _ _ _ us hl => match us, hl with | [_], _ => rfl
  obtain ⟨fdF, FF, _⟩ := dF.fn
  have bF : Binds K fdF ["_law_error"] [] := FF.binds fun _ _ _ _ _ _ us hl => match us, hl with | [_], _ => rfl
  obtain ⟨fdB, FB, _⟩ := dB.fn
  have bB : Binds K fdB ([] : List Str) [] := FB.binds fun _ _ _ _ _ _ us hl => match us, hl with | [], _ => rfl
  obtain ⟨fdP, FP, _⟩ := dP.fn
  have bP : Binds K fdP ["_law_value"] [] := FP.binds fun _ _ _ _ _ _ us hl => match us, hl with | [_], _ => rfl
  obtain ⟨fdN, FN, _⟩ := dN.fn
  have bN : Binds K fdN ["_law_value"] [] := FN.binds fun _ _ _ _ _ _ us hl => match us, hl with | [_], _ => rfl
  obtain ⟨fdR, FR, _⟩ := dR.fn
  have bR : Binds K fdR ["_law_errors", "_law_due"] [] := FR.binds fun _ _ _ _ _ _ us hl => match us, hl with | [_, _], _ => rfl
  obtain ⟨fdV, FV, _⟩ := dV.fn
  have bV : Binds K fdV ["_law_actual", "_law_due"] [] := FV.binds fun _ _ _ _ _ _ us hl => match us, hl with | [_, _], _ => rfl
  obtain ⟨fdC, FC, _⟩ := dC.fn
  have bC : Binds K fdC ["_law_value"] [] := FC.binds fun _ _ _ _ _ _ us hl => match us, hl with | [_], _ => rfl
  obtain ⟨fdb, Fb, _⟩ := db.fn
  have bb : Binds K fdb ["value"] [] := Fb.binds fun _ _ _ _ _ _ us hl => match us, hl with | [_], _ => rfl
  obtain ⟨fdh, Fh, _⟩ := dh.fn
  have bh : Binds K fdh ["value"] [] := Fh.binds fun _ _ _ _ _ _ us hl => match us, hl with | [_], _ => rfl
  obtain ⟨fdq, Fq, _⟩ := dq.fn
  have bq : Binds K fdq ["value"] [] := Fq.binds fun _ _ _ _ _ _ us hl => match us, hl with | [_], _ => rfl
  obtain ⟨fdw, Fw, _⟩ := dw.fn
  have bw : Binds K fdw ["value"] [] := Fw.binds fun _ _ _ _ _ _ us hl => match us, hl with | [_], _ => rfl
  obtain ⟨fdk, Fk, _⟩ := dk.fn
  have bk : Binds K fdk ["statement"] [] := Fk.binds fun _ _ _ _ _ _ us hl => match us, hl with | [_], _ => rfl
  obtain ⟨fdn, Fn, _⟩ := dn.fn
  have bn : Binds K fdn ["statement"] [] := Fn.binds fun _ _ _ _ _ _ us hl => match us, hl with | [_], _ => rfl
  obtain ⟨fdp, Fp, _⟩ := dp.fn
  have bp : Binds K fdp ["statement"] [] := Fp.binds fun _ _ _ _ _ _ us hl => match us, hl with | [_], _ => rfl
  obtain ⟨fdf, Ff, _⟩ := df.fn
  have bf : Binds K fdf ["block", "path", "depth", "in_repeat"] [] := Ff.binds fun _ _ _ _ _ _ us hl => match us, hl with | [_, _, _, _], _ => rfl
  obtain ⟨fdg, Fg, _⟩ := dg.fn
  have bg : Binds K fdg ["item", "depth", "in_repeat"] [] := Fg.binds fun _ _ _ _ _ _ us hl => match us, hl with | [_, _, _], _ => rfl
  obtain ⟨fdu, Fu, _⟩ := du.fn
  have bu : Binds K fdu ["item", "depth"] [] := Fu.binds fun _ _ _ _ _ _ us hl => match us, hl with | [_, _], _ => rfl
  obtain ⟨fdc, Fc, _⟩ := dc.fn
  have bc : Binds K fdc ["block"] [] := Fc.binds fun _ _ _ _ _ _ us hl => match us, hl with | [_], _ => rfl
  obtain ⟨fdl, Fl, _⟩ := dl.fn
  have bl : Binds K fdl ["block", "path", "behind", "outside"] [] := Fl.binds fun _ _ _ _ _ _ us hl => match us, hl with | [_, _, _, _], _ => rfl
  obtain ⟨fdv, Fv, _⟩ := dv.fn
  have bv : Binds K fdv ["block"] [] := Fv.binds fun _ _ _ _ _ _ us hl => match us, hl with | [_], _ => rfl
  obtain ⟨fdI, FI, _⟩ := dI.fn
  have bI : Binds K fdI ["self", "block"] [] := FI.binds fun _ _ _ _ _ _ us hl => match us, hl with | [_, _], _ => rfl
  obtain ⟨fdQ, FQ, _⟩ := dQ.fn
  have bQ : Binds K fdQ ["self", "other"] [] := FQ.binds fun _ _ _ _ _ _ us hl => match us, hl with | [_, _], _ => rfl
  have mS := PySem.W.mg_of X G aS
  have mX := PySem.W.mg_of X G aX
  have mD := PySem.W.mg_of X G aD
  have mA := PySem.W.mg_of X G aA
  have mO := PySem.W.mg_of X G aO
  have mE := PySem.W.mg_of X G aE
  have mF := PySem.W.mg_of X G aF
  have mB := PySem.W.mg_of X G aB
  have mP := PySem.W.mg_of X G aP
  have mN := PySem.W.mg_of X G aN
  have mR := PySem.W.mg_of X G aR
  have mV := PySem.W.mg_of X G aV
  have mC := PySem.W.mg_of X G aC
  have mb := PySem.W.mg_of X G ab
  have mh := PySem.W.mg_of X G ah
  have mq := PySem.W.mg_of X G aq
  have mw := PySem.W.mg_of X G aw
  have mk' := PySem.W.mg_of X G ak
  have mn := PySem.W.mg_of X G an
  have mp := PySem.W.mg_of X G ap
  have mf := PySem.W.mg_of X G af
  have mg' := PySem.W.mg_of X G ag
  have mu := PySem.W.mg_of X G au
  have mc := PySem.W.mg_of X G ac
  have ml := PySem.W.mg_of X G al
  have mv := PySem.W.mg_of X G av
  have mH := PySem.W.mg_of X G aH
  have mRo := PySem.W.mg_of X G aRo
  have mK := PySem.W.mg_of X G aK
  obtain ⟨fdL, FL, kVL, dcL, pmL, anL, cdL, ctL, rfl⟩ := dL.fn
  refine ⟨PySem.W.fnOf "law" "law" (defArgs sLaw) (defBody sLaw) (defScope sLaw) .none kVL dcL pmL anL cdL ctL, fun s v => .of_eq rfl, fun base _ _ => ?_⟩
  have GD : FnOk P w K mg base CX0 2 fD fdD ["_law_source_here", "_law_many"] spDraw := ok_draw FD TA FX bX mX
  have GO : FnOk P w K mg base CX0 6 fO fdO ["_law_source_here", "_law_deep"] (spOdd 3) := ok_odd FO TO GD FD.kp bD mD mO bO 3
  have GA : FnOk P w K mg base CX0 1 fA fdA ["_law_actual", "_law_due"] (spAlike K) := ok_alike FA TI
  have GV : FnOk P w K mg base CX0 5 fV fdV ["_law_actual", "_law_due"] (spSame 3) := ok_same FV TI GA FA.kp bA mA mV bV 3
  have GF : FnOk P w K mg base CX0 2 fF fdF ["_law_error"] (spF1 K _ 23) := ok_f FF TE FE bE mE
  have GR : FnOk P w K mg base CX0 6 fR fdR _ (spRight _) := ok_right FR TE TI KE mH m10 GF FF.kp bF mF GV FV.kp bV mV
  have Gb : FnOk P w K mg base CX0 1 fb fdb _ spIsBlock := ok_isBlock Fb TP
  have Gs : FnOk P w K mg base CX0 2 fq fdq _ spTrueS := ok_isStatement Fq TP Fh bh mh Fw bw mK kd lo
  have Gk : FnOk P w K mg base CX0 1 fk fdk _ spBlocksOf := ok_blocksOf Fk TP
  have Go : FnOk P w K mg base CX0 3 fu fdu _ (spSound 2 true) := ok_isSound Fu TP Gs Fq.kp bq mq
  have Gg : FnOk P w K mg base CX0 4 fg fdg _ (spSound 3 false) := ok_isWrong Fg TP Go Fu.kp bu mu
  have Gf : FnOk P w K mg base CX0 5 ff fdf _ spFirst := ok_first Ff TP Gg Fg.kp bg mg' Gk Fk.kp bk mk'
  have Gc : FnOk P w K mg base CX0 4 fc fdc _ spCount := ok_count Fc TP Gk Fk.kp bk mk'
  have Gl : FnOk P w K mg base CX0 2 fl fdl _ spLaid := ok_laid Fl TP Gk Fk.kp bk mk'
  have Gt : FnOk P w K mg base (L2.CX P w) 6 fv fdv _ (spCheck c0) := ok_check Fv TP e0 t0 F1 (PySem.W.mg_of X G n0) Gb Fb.kp bb mb Gf Ff.kp bf mf Gc Fc.kp bc mc
  have Gn : FnOk P w K mg base CX0 1 fn fdn _ spBlocksOf := ok_namesOf Fn
  have Gp : FnOk P w K mg base CX0 1 fp fdp _ spBlocksOf := ok_portsOf Fp
  have GI : FnOk P w K mg base (L2.CX P w) 7 fI fdI _ (spInit hR c0) := ok_rinit FI rc m12 Gt Fv.kp bv mv Gl Fl.kp bl ml Gn Fn.kp bn mn Gp Fp.kp bp mp
  have GQ : FnOk P w K mg base CX0 1 fQ fdQ _ (spREq hR) := ok_req FQ rc ri m5 mRo
  have GC : FnOk P w K mg base CX0 9 fC fdC _ spCaught := ok_caught FC mkR GI bI mRo mH e0 xH
  exact ok_law FL TI TE eH mH m10 mRo k0 kV F1 mkR GI bI on GQ bQ ⟨fS, fdS, ok_source FS TA m2, FS.kp, bS, mS⟩ ⟨fO, fdO, GO, FO.kp, bO, mO⟩ ⟨fB, fdB, ok_bare FB TE F1, FB.kp, bB, mB⟩ ⟨fP, fdP, ok_placed FP TE F1, FP.kp, bP, mP⟩ ⟨fN, fdN, ok_named FN TE F1, FN.kp, bN, mN⟩
    ⟨fR, fdR, GR, FR.kp, bR, mR⟩ ⟨fF, fdF, GF, FF.kp, bF, mF⟩ ⟨fV, fdV, GV, FV.kp, bV, mV⟩ ⟨fA, fdA, GA, FA.kp, bA, mA⟩ ⟨fC, fdC, GC, FC.kp, bC, mC⟩
end Oh
namespace Oh
open PySem PySem.Spec PyProof.Rows L2
theorem walk {l : PySem.W.OpenLaw} {q : Program} {loose : List Str} {XP : (Str → Option Value) → Heap → Prop} {YP : World → Heap → Prop} {d : DefRec} {K : Params → PySem.W.Frag} (hn : l.most = some 63) (hdf : d.params.defaults = [])
    (hY : ∀ (w : World) (h : Heap), YP w h → (K w.params).In h)
    (F : ∀ (w : World) (mg : Str → Option Value) (fa : Addr) (h : Heap), (K w.params).In h → h.Ns mainGlobals mg → mg d.name = some (.ref fa) →
      ∃ fd : FuncData, (∀ (s : Shared) (u : Value), BindsTo s fd ⟨[u], []⟩ [("_law_script", u)]) ∧ ∀ base : Heap, (K w.params).In base → base.Ns mainGlobals mg → FnOk l.prog w (K w.params) mg base CX0 10 fa fd ["_law_script"] (spLaw (K w.params))) :
    PySem.W.WalkO q loose XP YP l.row.toRowW d [] (fun f vs => PySem.call f vs) :=
  L2.walk_of (n := 63) (k := 10) (x := "_law_script") (CX := fun _ => CX0) (sp := fun w => spLaw (K w.params)) hn (by decide) hdf ⟨rfl, by decide, by decide⟩ hY F (fun _ _ a ns hl _ hS => ⟨a, ns, rfl, hS, hl, fun _ => rfl⟩) fun _ _ _ _ _ z => z
end Oh
open PySem PySem.W PyProof.Rows L2
set_option maxRecDepth 100000 in
set_option maxHeartbeats 0 in
theorem PySem.Challenge.cw_onlyheard_k01_error_classes_holds : PySem.Challenge.rw_onlyheard_k01_error_classes.Holds := by
  w_on; o_law; k_head; (case hw => w_witness2)
  k_fill
  refine Oh.walk (l := PySem.Challenge.rw_onlyheard_k01_error_classes) rfl rfl (fun w h Y => PySem.W.kIn_of Y) ?F
  case F =>
    intro w mg fa h KX G hmg
    refine' Oh.all_mk KX G hmg ?aL ?dL ?aS ?dS ?aX ?dX ?aD ?dD ?aA ?dA ?aO ?dO ?aE ?dE ?aF ?dF ?aB ?dB ?aP ?dP ?aN ?dN ?aR ?dR ?aV ?dV ?aC ?dC ?ab ?db ?ah ?dh ?aq ?dq ?aw ?dw ?ak ?dk ?an ?dn ?ap ?dp ?af ?df ?ag ?dg ?au ?du ?ac ?dc ?al ?dl ?av ?dv ?aH ?n0 ?n1 ?n2 ?n3 ?n4 ?n5 ?n6 ?n7 ?n8 ?n9 ?n10 ?n11 ?n12 ?n13 ?n14 ?n15 ?n16 ?n17 ?n18 ?n19 ?n20 ?n21 ?n22 ?i1 ?d1 ?t0 ?eH ?e0 ?e1 ?e2 ?e3 ?e4 ?e5 ?e6 ?e7 ?e8 ?e9 ?e10 ?e11 ?e12 ?e13 ?e14 ?e15 ?e16 ?e17 ?e18 ?e19 ?e20 ?e21 ?e22 ?kb ?xH ?kV ?aRo ?iI ?dI ?iQ ?dQ ?rc ?ri ?mkR ?on ?aK ?kd ?lo ?g1 ?g2 ?g3 ?z0 ?z1 ?z2 ?z3 ?z4 ?z5 ?z6 ?z7 ?z8 ?z9 ?z10 ?z11 ?z12
    (case aL => k_is)
    (case aS => k_is)
    (case aX => k_is)
    (case aD => k_is)
    (case aA => k_is)
    (case aO => k_is)
    (case aE => k_is)
    (case aF => k_is)
    (case aB => k_is)
    (case aP => k_is)
    (case aN => k_is)
    (case aR => k_is)
    (case aV => k_is)
    (case aC => k_is)
    (case ab => k_is)
    (case ah => k_is)
    (case aq => k_is)
    (case aw => k_is)
    (case ak => k_is)
    (case an => k_is)
    (case ap => k_is)
    (case af => k_is)
    (case ag => k_is)
    (case au => k_is)
    (case ac => k_is)
    (case al => k_is)
    (case av => k_is)
    (case aH => k_is)
    (case n0 => k_is)
    (case n1 => k_is)
    (case n2 => k_is)
    (case n3 => k_is)
    (case n4 => k_is)
    (case n5 => k_is)
    (case n6 => k_is)
    (case n7 => k_is)
    (case n8 => k_is)
    (case n9 => k_is)
    (case n10 => k_is)
    (case n11 => k_is)
    (case n12 => k_is)
    (case n13 => k_is)
    (case n14 => k_is)
    (case n15 => k_is)
    (case n16 => k_is)
    (case n17 => k_is)
    (case n18 => k_is)
    (case n19 => k_is)
    (case n20 => k_is)
    (case n21 => k_is)
    (case n22 => k_is)
    (case i1 => k_is)
    (case aRo => k_is)
    (case iI => k_is)
    (case iQ => k_is)
    (case aK => k_is)
    (case g1 => k_is)
    (case g2 => k_is)
    (case g3 => k_is)
    (case z0 => k_is)
    (case z1 => k_is)
    (case z2 => k_is)
    (case z3 => k_is)
    (case z4 => k_is)
    (case z5 => k_is)
    (case z6 => k_is)
    (case z7 => k_is)
    (case z8 => k_is)
    (case z9 => k_is)
    (case z10 => k_is)
    (case z11 => k_is)
    (case z12 => k_is)
    (case dL => refine' Oh.def_mk ?l ?c ?k; (case l => k_is); (case c => k_is); (case k => k_is))
    (case dS => refine' Oh.def_mk ?l ?c ?k; (case l => k_is); (case c => k_is); (case k => k_is))
    (case dX => refine' Oh.def_mk ?l ?c ?k; (case l => k_is); (case c => k_is); (case k => k_is))
    (case dD => refine' Oh.def_mk ?l ?c ?k; (case l => k_is); (case c => k_is); (case k => k_is))
    (case dA => refine' Oh.def_mk ?l ?c ?k; (case l => k_is); (case c => k_is); (case k => k_is))
    (case dO => refine' Oh.def_mk ?l ?c ?k; (case l => k_is); (case c => k_is); (case k => k_is))
    (case dE => refine' Oh.def_mk ?l ?c ?k; (case l => k_is); (case c => k_is); (case k => k_is))
    (case dF => refine' Oh.def_mk ?l ?c ?k; (case l => k_is); (case c => k_is); (case k => k_is))
    (case dB => refine' Oh.def_mk ?l ?c ?k; (case l => k_is); (case c => k_is); (case k => k_is))
    (case dP => refine' Oh.def_mk ?l ?c ?k; (case l => k_is); (case c => k_is); (case k => k_is))
    (case dN => refine' Oh.def_mk ?l ?c ?k; (case l => k_is); (case c => k_is); (case k => k_is))
    (case dR => refine' Oh.def_mk ?l ?c ?k; (case l => k_is); (case c => k_is); (case k => k_is))
    (case dV => refine' Oh.def_mk ?l ?c ?k; (case l => k_is); (case c => k_is); (case k => k_is))
    (case dC => refine' Oh.def_mk ?l ?c ?k; (case l => k_is); (case c => k_is); (case k => k_is))
    (case db => refine' Oh.def_mk ?l ?c ?k; (case l => k_is); (case c => k_is); (case k => k_is))
    (case dh => refine' Oh.def_mk ?l ?c ?k; (case l => k_is); (case c => k_is); (case k => k_is))
    (case dq => refine' Oh.def_mk ?l ?c ?k; (case l => k_is); (case c => k_is); (case k => k_is))
    (case dw => refine' Oh.def_mk ?l ?c ?k; (case l => k_is); (case c => k_is); (case k => k_is))
    (case dk => refine' Oh.def_mk ?l ?c ?k; (case l => k_is); (case c => k_is); (case k => k_is))
    (case dn => refine' Oh.def_mk ?l ?c ?k; (case l => k_is); (case c => k_is); (case k => k_is))
    (case dp => refine' Oh.def_mk ?l ?c ?k; (case l => k_is); (case c => k_is); (case k => k_is))
    (case df => refine' Oh.def_mk ?l ?c ?k; (case l => k_is); (case c => k_is); (case k => k_is))
    (case dg => refine' Oh.def_mk ?l ?c ?k; (case l => k_is); (case c => k_is); (case k => k_is))
    (case du => refine' Oh.def_mk ?l ?c ?k; (case l => k_is); (case c => k_is); (case k => k_is))
    (case dc => refine' Oh.def_mk ?l ?c ?k; (case l => k_is); (case c => k_is); (case k => k_is))
    (case dl => refine' Oh.def_mk ?l ?c ?k; (case l => k_is); (case c => k_is); (case k => k_is))
    (case dv => refine' Oh.def_mk ?l ?c ?k; (case l => k_is); (case c => k_is); (case k => k_is))
    (case dI => refine' Oh.def_mk ?l ?c ?k; (case l => k_is); (case c => k_is); (case k => k_is))
    (case dQ => refine' Oh.def_mk ?l ?c ?k; (case l => k_is); (case c => k_is); (case k => k_is))
    (case t0 => k_is)
    (case d1 => refine' Oh.einit_mk ?l ?c ?tl ?od ?k; (case l => k_is); (case c => k_is); (case tl => k_is); (case od => rfl); (case k => k_is))
    (case eH => refine' Oh.err_mk ?xL ?rf ?sa ?ex ?ty ?kC ?ga ?gg ?hd ?ha ?hn ?ht ?hm ?no ?ini; (case xL => k_is); (case rf => decide +kernel); (case sa => k_is); (case ex => k_is); (case ty => k_is); (case kC => k_is); (case ga => k_is); (case gg => k_is); (case hd => k_is); (case ha => k_is); (case hn => k_is); (case ht => k_is); (case hm => k_is); (case no => k_is); (case ini => k_is))
    (case e0 => refine' Oh.err_mk ?xL ?rf ?sa ?ex ?ty ?kC ?ga ?gg ?hd ?ha ?hn ?ht ?hm ?no ?ini; (case xL => k_is); (case rf => decide +kernel); (case sa => k_is); (case ex => k_is); (case ty => k_is); (case kC => k_is); (case ga => k_is); (case gg => k_is); (case hd => k_is); (case ha => k_is); (case hn => k_is); (case ht => k_is); (case hm => k_is); (case no => k_is); (case ini => k_is))
    (case e1 => refine' Oh.err_mk ?xL ?rf ?sa ?ex ?ty ?kC ?ga ?gg ?hd ?ha ?hn ?ht ?hm ?no ?ini; (case xL => k_is); (case rf => decide +kernel); (case sa => k_is); (case ex => k_is); (case ty => k_is); (case kC => k_is); (case ga => k_is); (case gg => k_is); (case hd => k_is); (case ha => k_is); (case hn => k_is); (case ht => k_is); (case hm => k_is); (case no => k_is); (case ini => k_is))
    (case e2 => refine' Oh.err_mk ?xL ?rf ?sa ?ex ?ty ?kC ?ga ?gg ?hd ?ha ?hn ?ht ?hm ?no ?ini; (case xL => k_is); (case rf => decide +kernel); (case sa => k_is); (case ex => k_is); (case ty => k_is); (case kC => k_is); (case ga => k_is); (case gg => k_is); (case hd => k_is); (case ha => k_is); (case hn => k_is); (case ht => k_is); (case hm => k_is); (case no => k_is); (case ini => k_is))
    (case e3 => refine' Oh.err_mk ?xL ?rf ?sa ?ex ?ty ?kC ?ga ?gg ?hd ?ha ?hn ?ht ?hm ?no ?ini; (case xL => k_is); (case rf => decide +kernel); (case sa => k_is); (case ex => k_is); (case ty => k_is); (case kC => k_is); (case ga => k_is); (case gg => k_is); (case hd => k_is); (case ha => k_is); (case hn => k_is); (case ht => k_is); (case hm => k_is); (case no => k_is); (case ini => k_is))
    (case e4 => refine' Oh.err_mk ?xL ?rf ?sa ?ex ?ty ?kC ?ga ?gg ?hd ?ha ?hn ?ht ?hm ?no ?ini; (case xL => k_is); (case rf => decide +kernel); (case sa => k_is); (case ex => k_is); (case ty => k_is); (case kC => k_is); (case ga => k_is); (case gg => k_is); (case hd => k_is); (case ha => k_is); (case hn => k_is); (case ht => k_is); (case hm => k_is); (case no => k_is); (case ini => k_is))
    (case e5 => refine' Oh.err_mk ?xL ?rf ?sa ?ex ?ty ?kC ?ga ?gg ?hd ?ha ?hn ?ht ?hm ?no ?ini; (case xL => k_is); (case rf => decide +kernel); (case sa => k_is); (case ex => k_is); (case ty => k_is); (case kC => k_is); (case ga => k_is); (case gg => k_is); (case hd => k_is); (case ha => k_is); (case hn => k_is); (case ht => k_is); (case hm => k_is); (case no => k_is); (case ini => k_is))
    (case e6 => refine' Oh.err_mk ?xL ?rf ?sa ?ex ?ty ?kC ?ga ?gg ?hd ?ha ?hn ?ht ?hm ?no ?ini; (case xL => k_is); (case rf => decide +kernel); (case sa => k_is); (case ex => k_is); (case ty => k_is); (case kC => k_is); (case ga => k_is); (case gg => k_is); (case hd => k_is); (case ha => k_is); (case hn => k_is); (case ht => k_is); (case hm => k_is); (case no => k_is); (case ini => k_is))
    (case e7 => refine' Oh.err_mk ?xL ?rf ?sa ?ex ?ty ?kC ?ga ?gg ?hd ?ha ?hn ?ht ?hm ?no ?ini; (case xL => k_is); (case rf => decide +kernel); (case sa => k_is); (case ex => k_is); (case ty => k_is); (case kC => k_is); (case ga => k_is); (case gg => k_is); (case hd => k_is); (case ha => k_is); (case hn => k_is); (case ht => k_is); (case hm => k_is); (case no => k_is); (case ini => k_is))
    (case e8 => refine' Oh.err_mk ?xL ?rf ?sa ?ex ?ty ?kC ?ga ?gg ?hd ?ha ?hn ?ht ?hm ?no ?ini; (case xL => k_is); (case rf => decide +kernel); (case sa => k_is); (case ex => k_is); (case ty => k_is); (case kC => k_is); (case ga => k_is); (case gg => k_is); (case hd => k_is); (case ha => k_is); (case hn => k_is); (case ht => k_is); (case hm => k_is); (case no => k_is); (case ini => k_is))
    (case e9 => refine' Oh.err_mk ?xL ?rf ?sa ?ex ?ty ?kC ?ga ?gg ?hd ?ha ?hn ?ht ?hm ?no ?ini; (case xL => k_is); (case rf => decide +kernel); (case sa => k_is); (case ex => k_is); (case ty => k_is); (case kC => k_is); (case ga => k_is); (case gg => k_is); (case hd => k_is); (case ha => k_is); (case hn => k_is); (case ht => k_is); (case hm => k_is); (case no => k_is); (case ini => k_is))
    (case e10 => refine' Oh.err_mk ?xL ?rf ?sa ?ex ?ty ?kC ?ga ?gg ?hd ?ha ?hn ?ht ?hm ?no ?ini; (case xL => k_is); (case rf => decide +kernel); (case sa => k_is); (case ex => k_is); (case ty => k_is); (case kC => k_is); (case ga => k_is); (case gg => k_is); (case hd => k_is); (case ha => k_is); (case hn => k_is); (case ht => k_is); (case hm => k_is); (case no => k_is); (case ini => k_is))
    (case e11 => refine' Oh.err_mk ?xL ?rf ?sa ?ex ?ty ?kC ?ga ?gg ?hd ?ha ?hn ?ht ?hm ?no ?ini; (case xL => k_is); (case rf => decide +kernel); (case sa => k_is); (case ex => k_is); (case ty => k_is); (case kC => k_is); (case ga => k_is); (case gg => k_is); (case hd => k_is); (case ha => k_is); (case hn => k_is); (case ht => k_is); (case hm => k_is); (case no => k_is); (case ini => k_is))
    (case e12 => refine' Oh.err_mk ?xL ?rf ?sa ?ex ?ty ?kC ?ga ?gg ?hd ?ha ?hn ?ht ?hm ?no ?ini; (case xL => k_is); (case rf => decide +kernel); (case sa => k_is); (case ex => k_is); (case ty => k_is); (case kC => k_is); (case ga => k_is); (case gg => k_is); (case hd => k_is); (case ha => k_is); (case hn => k_is); (case ht => k_is); (case hm => k_is); (case no => k_is); (case ini => k_is))
    (case e13 => refine' Oh.err_mk ?xL ?rf ?sa ?ex ?ty ?kC ?ga ?gg ?hd ?ha ?hn ?ht ?hm ?no ?ini; (case xL => k_is); (case rf => decide +kernel); (case sa => k_is); (case ex => k_is); (case ty => k_is); (case kC => k_is); (case ga => k_is); (case gg => k_is); (case hd => k_is); (case ha => k_is); (case hn => k_is); (case ht => k_is); (case hm => k_is); (case no => k_is); (case ini => k_is))
    (case e14 => refine' Oh.err_mk ?xL ?rf ?sa ?ex ?ty ?kC ?ga ?gg ?hd ?ha ?hn ?ht ?hm ?no ?ini; (case xL => k_is); (case rf => decide +kernel); (case sa => k_is); (case ex => k_is); (case ty => k_is); (case kC => k_is); (case ga => k_is); (case gg => k_is); (case hd => k_is); (case ha => k_is); (case hn => k_is); (case ht => k_is); (case hm => k_is); (case no => k_is); (case ini => k_is))
    (case e15 => refine' Oh.err_mk ?xL ?rf ?sa ?ex ?ty ?kC ?ga ?gg ?hd ?ha ?hn ?ht ?hm ?no ?ini; (case xL => k_is); (case rf => decide +kernel); (case sa => k_is); (case ex => k_is); (case ty => k_is); (case kC => k_is); (case ga => k_is); (case gg => k_is); (case hd => k_is); (case ha => k_is); (case hn => k_is); (case ht => k_is); (case hm => k_is); (case no => k_is); (case ini => k_is))
    (case e16 => refine' Oh.err_mk ?xL ?rf ?sa ?ex ?ty ?kC ?ga ?gg ?hd ?ha ?hn ?ht ?hm ?no ?ini; (case xL => k_is); (case rf => decide +kernel); (case sa => k_is); (case ex => k_is); (case ty => k_is); (case kC => k_is); (case ga => k_is); (case gg => k_is); (case hd => k_is); (case ha => k_is); (case hn => k_is); (case ht => k_is); (case hm => k_is); (case no => k_is); (case ini => k_is))
    (case e17 => refine' Oh.err_mk ?xL ?rf ?sa ?ex ?ty ?kC ?ga ?gg ?hd ?ha ?hn ?ht ?hm ?no ?ini; (case xL => k_is); (case rf => decide +kernel); (case sa => k_is); (case ex => k_is); (case ty => k_is); (case kC => k_is); (case ga => k_is); (case gg => k_is); (case hd => k_is); (case ha => k_is); (case hn => k_is); (case ht => k_is); (case hm => k_is); (case no => k_is); (case ini => k_is))
    (case e18 => refine' Oh.err_mk ?xL ?rf ?sa ?ex ?ty ?kC ?ga ?gg ?hd ?ha ?hn ?ht ?hm ?no ?ini; (case xL => k_is); (case rf => decide +kernel); (case sa => k_is); (case ex => k_is); (case ty => k_is); (case kC => k_is); (case ga => k_is); (case gg => k_is); (case hd => k_is); (case ha => k_is); (case hn => k_is); (case ht => k_is); (case hm => k_is); (case no => k_is); (case ini => k_is))
    (case e19 => refine' Oh.err_mk ?xL ?rf ?sa ?ex ?ty ?kC ?ga ?gg ?hd ?ha ?hn ?ht ?hm ?no ?ini; (case xL => k_is); (case rf => decide +kernel); (case sa => k_is); (case ex => k_is); (case ty => k_is); (case kC => k_is); (case ga => k_is); (case gg => k_is); (case hd => k_is); (case ha => k_is); (case hn => k_is); (case ht => k_is); (case hm => k_is); (case no => k_is); (case ini => k_is))
    (case e20 => refine' Oh.err_mk ?xL ?rf ?sa ?ex ?ty ?kC ?ga ?gg ?hd ?ha ?hn ?ht ?hm ?no ?ini; (case xL => k_is); (case rf => decide +kernel); (case sa => k_is); (case ex => k_is); (case ty => k_is); (case kC => k_is); (case ga => k_is); (case gg => k_is); (case hd => k_is); (case ha => k_is); (case hn => k_is); (case ht => k_is); (case hm => k_is); (case no => k_is); (case ini => k_is))
    (case e21 => refine' Oh.err_mk ?xL ?rf ?sa ?ex ?ty ?kC ?ga ?gg ?hd ?ha ?hn ?ht ?hm ?no ?ini; (case xL => k_is); (case rf => decide +kernel); (case sa => k_is); (case ex => k_is); (case ty => k_is); (case kC => k_is); (case ga => k_is); (case gg => k_is); (case hd => k_is); (case ha => k_is); (case hn => k_is); (case ht => k_is); (case hm => k_is); (case no => k_is); (case ini => k_is))
    (case e22 => refine' Oh.err_mk ?xL ?rf ?sa ?ex ?ty ?kC ?ga ?gg ?hd ?ha ?hn ?ht ?hm ?no ?ini; (case xL => k_is); (case rf => decide +kernel); (case sa => k_is); (case ex => k_is); (case ty => k_is); (case kC => k_is); (case ga => k_is); (case gg => k_is); (case hd => k_is); (case ha => k_is); (case hn => k_is); (case ht => k_is); (case hm => k_is); (case no => k_is); (case ini => k_is))
    (case kb => kernel_rfl)
    (case xH => first | k_is | exact exm_ref (by k_is) (by k_is) (by k_is) (by k_is))
    (case kV => kernel_rfl)
    (case rc => refine' ⟨⟨?p1, ?p2, ?p3, ?p4⟩, ?p5, ?p6, ?p7, ?p8, ?p9⟩; (case p1 => k_is); (case p2 => k_is); (case p3 => k_is); (case p4 => k_is); (case p5 => (unfold L2.NoAttr; k_is)); (case p6 => (unfold L2.NoAttr; k_is)); (case p7 => (unfold L2.NoAttr; k_is)); (case p8 => (unfold L2.NoAttr; k_is)); (case p9 => (unfold L2.NoAttr; k_is)))
    (case ri => refine' ⟨?p1, ?p2, ?p3, ?p4, ?p5⟩; (case p1 => k_is); (case p2 => k_is); (case p3 => k_is); (case p4 => k_is); (case p5 => kernel_rfl))
    (case mkR => refine' ⟨?p1, ?p2, ?p3, ?p4⟩; (case p1 => k_is); (case p2 => k_is); (case p3 => k_is); (case p4 => k_is))
    (case on => refine' ⟨?p1, ?p2, ?p3, ?p4⟩; (case p1 => k_is); (case p2 => k_is); (case p3 => k_is); (case p4 => k_is))
    (case lo => decide +kernel)
    (case kd => refine' Oh.kd_mk ?p1 ?p2 ?p3; (case p1 => k_is); (case p3 => k_is); (case p2 => exact ⟨⟨_, _, rfl, rfl⟩, ⟨_, _, rfl, rfl⟩, ⟨_, _, rfl, rfl⟩, ⟨_, _, rfl, rfl⟩, ⟨_, _, rfl, rfl⟩, ⟨_, _, rfl, rfl⟩, ⟨_, _, rfl, rfl⟩, ⟨_, _, rfl, rfl⟩, ⟨_, _, rfl, rfl⟩, ⟨_, _, rfl, rfl⟩, trivial⟩))
