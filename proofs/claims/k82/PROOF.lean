import PyProof.Rows.All
import Wide.All
import OpenK.AllK
import Wide.FinOn
import HandS.Base
import HandS.Call
import HandS.List
import HandS.Comp
import HandS.Ends
import HandS.Dict
import HandS.Iter
import HandS.Text
import HandS.Words
import HandS.Wide
import HandS.Flow
import HandS.Style
import HandS.IsInst
import HandS.ExcInit
import HandS.ExcIs
import HandS.Defaults
import HandS.Walk
import HandS.Codes
import KE.IntTextLaws
import PyProof.ReprRoads
import HandS.WordsExc
import HandS.TryMany
import HandS.ExcOwn
import HandS.ExcField
import KE.GoesEnum
import PyProof.ReprBulk
import HandS.WideBits
import PyProof.EqKinds
import PyProof.FactsAll.dict_1
import PyProof.FactsAll.subtypes_3
import PyProof.FactsAll.subtypes_4
import KE.KExcInit
import PyProof.ExcBaseAll.LookupError
import HandS.CallSlots
import HandS.Conv
import HandS.Small
import PySem.Challenge.RW_guestsalone_k82_refusals_apart
set_option Elab.async false
set_option linter.all false
set_option maxRecDepth 100000
set_option maxHeartbeats 8000000
namespace Bk
open PySem PySem.Spec PyProof.Rows L2
/-! ## 1. rules of our own -/
section
variable {X : Cx} {CX : CXT} {k n : Nat} {f : Addr} {fd : FuncData} {ps ks : List Str} {sp : Sp} {E : XK} {x m : Str} {p p1 p2 pos : Pos} {e : Expr} {es : List Expr} {kws : List Keyword} {t tk ta : TA} {g : List Value → List Value → List Value} {gV : List V → List V → List V}
/-- f(k = v, ..): keywords alone -/
theorem pe_callN0 (F : FnOk X.prog X.w X.K X.mg X.base CX k f fd ps sp) (hr : Room k X.A) (hg : Gl X x) (hm : X.mg x = some (.ref f)) (hk : PySem.W.keepIn X.K (.ref f) = true) (hb : KBn X.K fd ps 0 ks g gV) (hx : Passes CX X E)
    (hkw : PK X kws tk) (hall : (backToKw pos (keywordEach kws X.env)).all (·.1.isSome) = true := by rfl) (hks : (backToKw pos (keywordEach kws X.env)).filterMap (·.1) = ks := by rfl)
    (hdb : (x == ("__debug__" : Str)) = false := by decide)
    (hpl : ((backTo pos (starEach [] X.env)).any (·.1) || (backToKw pos (keywordEach kws X.env)).any (·.1.isNone)) = false := by rfl) :
    PE X (.Call (.Name x p) [] kws pos) (tCallN 0 ks.length sp gV E tNil tk) := by
  refine ⟨fun pins s σ H Q I h => ?_⟩
  refine wpAny_Call_Name_kw (ld_glob I hg hm ?_ hdb)
  refine PySem.W.callWith_KW0 (h₀ := X.base) I.ok.mod.kin hk hall ?_ hpl
  refine thn (hkw.run pos pins s σ H _ I h) fun ws s2 ⟨zs, H2, I2, rz, l1, l2, q2⟩ => ⟨I2.kIn, ?_⟩
  rw [hks]
  exact run_fnN (us := []) (vs := []) F hr hb hx I2 .nil rz rfl l2 q2
/-- C.m(e, ..): m a plain def of the class at B (or above it), read off the class -/
theorem pe_cdef {B : Addr} {mc : Value} {ds : List Value} {dvs : List V} {pl : Sem Bool} (F : FnOk X.prog X.w X.K X.mg X.base CX k f fd ps sp) (hr : Room k X.A) (hg : Gl X x) (hm : X.mg x = some (.ref B))
    (rd : PySem.W.readsIn X.K B mc = true) (ga : PySem.W.specialIn X.K (.ref B) "__getattribute__" = some (some (.builtin "type.__getattribute__"))) (at_ : PySem.W.findCls X.K (.ref B) mc m = some (.val (.ref f)))
    (hk : PySem.W.keepIn X.K (.ref f) = true) (hb : Binds X.K fd ps ds) (hd : Vals dvs ds) (hx : Passes CX X E) (ha : PA X (e :: es) t)
    (ht : eval (.Call (.Attribute (.Name x p1) m p2) (e :: es) [] pos) X.env = (do
      let ov ← eval (.Name x p1) X.env
      standAt p2.atName
      let (f, first) ← holding [ov] (getMethod ov m pl)
      callWith pos f first (backTo pos (starEach (e :: es) X.env)) (backToKw pos (keywordEach [] X.env))) := by rfl)
    (hdb : (x == ("__debug__" : Str)) = false := by decide) (he : starEach (e :: es) X.env = (false, eval e X.env) :: starEach es X.env := by rfl) (hpl : (backTo pos (starEach es X.env)).any (·.1) = false := by rfl) :
    PE X (.Call (.Attribute (.Name x p1) m p2) (e :: es) [] pos) (tCall sp dvs E t) := by
  refine ⟨fun pins s σ H Q I h => ?_⟩
  refine PySem.W.methodCall_KW (pl := pl) (ld_glob I hg hm ?_ hdb) ht
  refine PySem.W.method_cls I.kIn ga (PySem.W.cls_value I.kIn rd at_ rfl ?_)
  have I1 := I.tok (s.toks + 1)
  refine PySem.W.callWith_K (h₀ := X.base) I.ok.mod.kin hk (thn (ha.run pos pins _ σ H _ I1 h) fun us s1 ⟨vs, H1, I2, r, q⟩ => ⟨I2.kIn, ?_⟩) he hpl
  exact run_fn F hr hb hd hx I2 r q
/-- C(e, ..) as a value, C an own exception class under ValueError whose own __init__ keeps sp -/
def tMkV (C : Addr) (sp : Sp) (dvs : List V) (ta : TA) : TE := fun σ H Q => ta σ H fun vs H1 => vs.length ≤ 1000 ∧ ∀ a, H1 a = none → sp (.ref a :: (vs ++ dvs)) (upd H1 a (exo a C none)) (fun v H2 => v = .non ∧ Q (.ref a) H2) (fun _ _ _ => False)
theorem pe_oex {C fI : Addr} {ds : List Value} {dvs : List V} (T : OexC X.K C) (iC : PySem.W.findIn X.K (.ref C) "__init__" = some (some (.ref fI))) (tI : PySem.W.typeIn X.K (.ref fI) = some (.type "function"))
    (F1 : FnOk X.prog X.w X.K X.mg X.base CX k fI fd ps sp) (hr : Room (k + 1) X.A) (hb : Binds X.K fd ps ds) (hd : Vals dvs ds) (hx : Passes CX X (fun _ _ _ => False)) (hg : Gl X x) (hm : X.mg x = some (.ref C)) (ha : PA X (e :: es) ta)
    (hdb : (x == ("__debug__" : Str)) = false := by decide) (he : starEach (e :: es) X.env = (false, eval e X.env) :: starEach es X.env := by rfl) (hpl : (backTo pos (starEach es X.env)).any (·.1) = false := by rfl) :
    PE X (.Call (.Name x p) (e :: es) [] pos) (tMkV C sp dvs ta) := by
  refine ⟨fun pins s σ H Q I h => ?_⟩
  obtain ⟨nm, q, N, bs, bm, sn, sub, ab, col, dd, k0, k1, k2, k3, k5, hC, hbm⟩ := T.cls
  refine wpAny_Call_Name_kw (ld_glob I hg hm ?_ hdb)
  refine PySem.W.callWith_K (h₀ := X.base) I.ok.mod.kin T.kC (thn (ha.run pos pins s σ H _ I h) fun us s1 ⟨vs, H1, I1, r1, hz, q1⟩ => ⟨I1.kIn, ?_⟩) he hpl
  show wpAny _ _ (call (.ref C) us) _ _ _
  obtain ⟨hp, g, dr, tk, os⟩ := s1
  have hsz : hp.objs.size ≤ hp.objs.size + 1 := Nat.le_succ _
  have hn : H1 (hp.objs.size + 1) = none := I1.hok.fresh hsz
  have hq := q1 (hp.objs.size + 1) hn
  have kk : ∀ b o, hp.get? b = some o → ((hp.push (PySem.W.kdv_tup us)).push (PySem.HandSPX.excO C hp.objs.size)).get? b = some o := fun b o e => Heap.get?_push_of_some _ (Heap.get?_push_of_some _ e)
  have hget : ((hp.push (PySem.W.kdv_tup us)).push (PySem.HandSPX.excO C hp.objs.size)).get? (hp.objs.size + 1) = some (PySem.HandSPX.excO C hp.objs.size) := by heap_get
  have I2 : Inv X pins σ (upd H1 (hp.objs.size + 1) (exo (hp.objs.size + 1) C none)) ⟨(hp.push (PySem.W.kdv_tup us)).push (PySem.HandSPX.excO C hp.objs.size), g, dr, tk, os⟩ :=
    I1.laid (t' := tk) (a := hp.objs.size + 1) (o := exo (hp.objs.size + 1) C none) (h' := (hp.push (PySem.W.kdv_tup us)).push (PySem.HandSPX.excO C hp.objs.size)) kk hsz (exo_ok hget)
  have r2 : Vals (V.ref (hp.objs.size + 1) :: (vs ++ dvs)) (Value.ref (hp.objs.size + 1) :: (us ++ ds)) := .cons rfl (r1.append hd)
  have hl : (Value.ref (hp.objs.size + 1) :: us ++ ds).length = ps.length := by
    have e := r2.length
    rw [F1.len _ _ _ _ hq] at e
    exact e.symm
  have hus : us.length ≤ sizeLine := by
    rw [← Paired.length r1, sizeLine_eq]
    omega
  refine wpAny_call (PySem.HandSPX.call_own F.excBase_ValueError (fun Y => PySem.HandSPX.refsVE_contains Y bm hbm) (I1.kIn _ _ hC) (PySem.W.looks_findIn I1.kIn iC) (fun self => PySem.W.bind_fn I1.kIn self tI) hus
    (codeAny_mono (F1.run _ X.stack _ _ ⟨Value.ref (hp.objs.size + 1) :: us, []⟩ (Value.ref (hp.objs.size + 1) :: (us ++ ds)) _ _ (fun _ _ _ => False) (hr.make C us []) (I2.env0.make C us []) (hb _ (Value.ref (hp.objs.size + 1) :: us) I2.kIn hl) r2 hq) fun r s' hq' => ?_))
  cases r with
  | error er => exact hx pins σ _ _ er s' I2 hq'
  | ok fl =>
    cases fl with
    | ret u =>
      obtain ⟨v, H2, I3, rv, ev, q2⟩ := I2.after hq'
      subst ev
      exact ⟨rv, .ref (hp.objs.size + 1), H2, I3, rfl, q2⟩
    | next => exact False.elim hq'
    | brk => exact False.elim hq'
    | cont => exact False.elim hq'
/-- repr of a truth -/
def reprB (b : Bool) : Str := if b then "True" else "False"
theorem reprB_inj {a b : Bool} : decide (V.str (reprB a) = V.str (reprB b)) = decide (a = b) := by
  cases a <;> cases b <;> decide +kernel
theorem call_repr_bl : CallR X (.builtin "repr") (fun xs H Q => ∃ b, xs = [.bl b] ∧ Q (.str (reprB b)) H) := by
  intro pins s σ H xs us Q I r h
  obtain ⟨b, rfl, q⟩ := h
  obtain ⟨u, rfl, rfl⟩ := vals1 r
  exact PySem.P.repr_of_bool ⟨.str _, H, I.tok _, ⟨_, rfl⟩, q⟩
end
/-! ### an exception as a value: isinstance, its field -/
end Bk
namespace PySem.W
open PySem PySem.Spec PySem.Calls PyProof.Rows
section
variable {prog : Program} {w : World} {A : Around} {E : Value → Shared → Prop} {s : Shared} {K : Frag} {x D : Addr} {ox : Obj} {od : Option Obj}
theorem bk_findObj {C : Addr} {name : Str} {a g : Value} (hc : (clsIn K C).isSome = true) (ha : findIn K (.ref C) name = some (some a)) (hg : specialIn K a "__get__" = some (some g)) (ht : takesIn K a = some true) : findObj K C od name = some (.bind g a) := by
  obtain ⟨cd, hc⟩ := Option.isSome_iff_exists.mp hc
  unfold findObj
  rw [hc, Option.bind_some, ha, Option.bind_some]
  simp [hg, ht]
theorem bk_class {Q : Option Value → Shared → Prop} (hga : findIn K (.ref D) "__getattribute__" = some (some (.builtin "BaseException.__getattribute__"))) (hgt : findIn K (.ref D) "__getattr__" = some none) (hsub : subIn K (.ref D) (.type "BaseException") = some true)
    (hdct : hasDictIn K D = true) (ha : findIn K (.ref D) "__class__" = some (some (.builtin "object.__class__")))
    (hn : specialIn K (.builtin "object.__class__") "__get__" = some (some (.builtin "getset_descriptor.__get__"))) (htk : takesIn K (.builtin "object.__class__") = some true) (hm : mroIn K D (.type "object") = some true)
    (X : K.In s.heap) (I : InstAt s.heap x ox D od) (h : Q (some (.ref D)) { s with toks := s.toks + 1 }) : wpAny (model prog w) A (getAttr? (.ref x) "__class__") Q E s := by
  have hf : findObj K D od "__class__" = some (.bind (.builtin "getset_descriptor.__get__") (.builtin "object.__class__")) := bk_findObj (by obtain ⟨cd, hc, _⟩ := any_some hdct; rw [hc]; rfl) ha hn htk
  obtain ⟨hp, g, d, t, os⟩ := s
  have L0 := I.type (M := model prog w)
  have L1 := looks_findIn (M := model prog w) X hga
  have L2 := looks_findIn (M := model prog w) X hgt
  have L3 := looks_find (M := model prog w) X I hf
  have sub : Looks (model prog w) hp (isInstance (.ref x) (.type "BaseException")) true := L0.andThen (looks_subIn X hsub)
  have hx0 : (false && onTheHeap (Value.builtin "BaseException.__getattribute__")) = false := rfl
  have hx2 : (Value.builtin "BaseException.__getattribute__" == Value.builtin "object.__getattribute__") = false := by decide +kernel
  have hx1 : (onTheHeap (Value.ref D) && Value.builtin "BaseException.__getattribute__" == Value.builtin "object.__getattribute__") = false := by rw [hx2]; rfl
  unfold getAttr? getAttrBy? getAttrBy
  refine wpAny_bind (wpAny_mkText (wpAny_bind (wpAny_attempt (wpAny_holding (wpAny_bind (L0.at (wpAny_bind (L1.at ?_))))))))
  show wpAny _ _ (if (onTheHeap (Value.ref D) && Value.builtin "BaseException.__getattribute__" == Value.builtin "object.__getattribute__") = true then _ else _) _ _ _
  rw [hx1, if_neg Bool.false_ne_true]
  unfold getAttrByItsOwn hookBefore
  refine wpAny_bind ?_
  rw [if_pos (show onTheHeap (Value.ref D) = true from rfl)]
  refine L2.at ?_
  refine wpAny_bind (wpAny_attempt (wpAny_holding ?_))
  unfold callGetattribute
  rw [hx0, if_neg Bool.false_ne_true]
  unfold boundAndCalled
  rw [PySem.F.excAttr_ValueError.ga.bind (.ref x)]
  refine wpAny_bind (wpAny_pure ?_)
  show wpAny _ _ (call (.builtin "BaseException.__getattribute__") [.ref x, .str "__class__" t]) _ _ _
  refine wpAny_call (codeAny_call_builtin PySem.F.excAttr_ValueError.ga.plain PySem.F.entry_bexc_ga ?_)
  refine @check_slot (model prog w) _ _ ⟨hp, g, d, t + 1, os⟩ "BaseException.__getattribute__" "BaseException" "__getattribute__" (.ref x) [.str "__class__" t] [] _ (by decide +kernel) (by decide +kernel) sub (PySem.F.args_bexc_ga (.ref x) (.str "__class__" t)) ?_
  unfold Builtin.«object.__getattribute__»
  refine wpAny_bind (wpAny_of_eq (a := ((Value.ref x : Value), [Value.str "__class__" t])) (by first | rfl | (simp only [slotArgs]; rfl)) ?_)
  refine wpAny_bind (wpAny_pure (wpAny_bind (L0.at (wpAny_bind (L3.at ?_)))))
  show wpAny _ _ (holding [Value.builtin "object.__class__"] (call (.builtin "getset_descriptor.__get__") [.builtin "object.__class__", .ref x, .ref D]) >>= ret) _ _ _
  refine wpAny_bind (wpAny_holding (wpAny_call (class_get (s := ⟨hp, g, d, t + 1, os⟩) (ox := ox) (od := od) X I hm ?_)))
  refine wpAny_pure ?_
  show wpAny _ _ (handedOut (.ref D)) _ _ _
  rw [handedOut_of (v := .ref D) rfl]
  first
    | exact wpAny_pure (wpAny_pure h)
    | exact wpAny_pure h
    | exact wpAny_pure (wpAny_bind (wpAny_pure (wpAny_pure h)))
theorem bk_kitx (hga : findIn K (.ref D) "__getattribute__" = some (some (.builtin "BaseException.__getattribute__"))) (hgt : findIn K (.ref D) "__getattr__" = some none) (hsub : subIn K (.ref D) (.type "BaseException") = some true) (hdct : hasDictIn K D = true) (ha : findIn K (.ref D) "__class__" = some (some (.builtin "object.__class__")))
    (hn : specialIn K (.builtin "object.__class__") "__get__" = some (some (.builtin "getset_descriptor.__get__"))) (htk : takesIn K (.builtin "object.__class__") = some true) (hm : mroIn K D (.type "object") = some true) :
    KitX K (.ref x) (.ref D) (fun h => InstAt h x ox D od) where
  ty := fun _ _ _ I => I.type
  it := fun _ _ X _ => by
    obtain ⟨cdD, hcD, _⟩ := any_some hdct
    unfold clsIn at hcD
    split at hcD
    · rename_i c' d' cd' sl' ho
      intro A' Q' E' s' k q
      unfold isType loadHead
      exact wpAny_bind (wpAny_loadPart (k _ _ (X _ _ ho)) (wpAny_pure q))
    · cases hcD
  ne := fun h tp dd its n sl X htp => by
    obtain ⟨cdD, hcD, _⟩ := any_some hdct
    refine Bool.eq_false_iff.mpr fun q => ?_
    have e : D = tp := Value.ref.inj (beq_iff_eq.mp q)
    subst e
    unfold clsIn at hcD
    split at hcD
    · rename_i c' d' cd' sl' ho
      have z := (X _ _ ho).symm.trans htp
      cases z
    · cases hcD
  ca := fun X I k => bk_class hga hgt hsub hdct ha hn htk hm X I k
end
end PySem.W
namespace Bk
open PySem PySem.Spec PyProof.Rows L2
/-- at a: an exception of the class at D, its own dict (at dx) holds fs -/
def XV (H : Hp) (a D dx : Addr) (fs : List (Str × V)) : Prop := H a = some (exo a D (some dx)) ∧ H dx = some (exd dx fs)
theorem xv_inst {X : Cx} {pins : List (Addr × Obj)} {σ : L2.St} {H : Hp} {s : Shared} {a D dx : Addr} {fs : List (Str × V)} (I : Inv X pins σ H s) (h : XV H a D dx fs) :
    ∃ (ox od : Obj) (mA : Str → Option Value), PySem.W.InstAt s.heap a ox D (some od) ∧ (∀ f, PySem.W.lookIn f od = some (mA f)) ∧ ∀ f, RelO (fs.lookup f) (mA f) := by
  obtain ⟨t1, ho⟩ := exo_at I.hok h.1
  obtain ⟨mA, hns, rel⟩ := exd_at I.hok h.2
  obtain ⟨od, hod, hl⟩ := lookIn_ns hns
  exact ⟨_, od, mA, ⟨ho, rfl, rfl, hod⟩, hl, rel⟩
/-- isinstance(e, c), e such an exception -/
def rIsX (K : PySem.W.Frag) : List V → Hp → VK → Prop := fun xs H Q => ∃ (a D dx : Addr) (fs : List (Str × V)) (c : V) (u : Value) (b : Bool), xs = [.ref a, c] ∧ XV H a D dx fs ∧ ExcC K D ∧ ClsV c u ∧ PySem.W.kitOne K (.ref D) u = some b ∧ Q (.bl b) H
theorem call_isX {X : Cx} : CallR X (.builtin "isinstance") (rIsX X.K) := by
  intro pins s σ H xs us Q I r h
  obtain ⟨a, D, dx, fs, c, u, b, rfl, xv, C, k, e, q⟩ := h
  obtain ⟨u1, u2, rfl, r1, r2⟩ := vals2 r
  have e2 := k.eq r2
  subst e2
  obtain rfl : u1 = Value.ref a := r1
  obtain ⟨ox, od, mA, J, _, _⟩ := xv_inst I xv
  exact PySem.W.kia_one (PySem.W.bk_kitx (ox := ox) (od := some od) C.hg C.hk C.hs C.hd C.ha C.hn C.ht C.hm) I.kIn J e (fun z => nomatch z) fun tk => ⟨.bl b, H, I.tok tk, rfl, q⟩
/-- isinstance of a value of any form met here -/
def rIs (K : PySem.W.Frag) : List V → Hp → VK → Prop := fun xs H Q => rIsi K xs H Q ∨ rIsX K xs H Q
theorem call_is {X : Cx} : CallR X (.builtin "isinstance") (rIs X.K) := CallR.or call_isi call_isX
end Bk

namespace Bk
open PySem PySem.Spec PyProof.Rows L2
/-! ## 2. a def that may be called by its name -/
structure Cal (P : Program) (w : World) (K : PySem.W.Frag) (mg : Str → Option Value) (base : Heap) (CX : CXT) (k : Nat) (x : Str) (sp : Sp) : Prop where
  ex : ∃ (f : Addr) (fd : FuncData) (ps : List Str) (ds : List Value) (dvs : List V), mg x = some (.ref f) ∧ PySem.W.keepIn K (.ref f) = true ∧ FnOk P w K mg base CX k f fd ps (fun vs H Q E => sp vs H Q E ∧ vs.length = ps.length) ∧ Binds K fd ps [] ∧ ds = [] ∧ dvs = []
/-- the same with keywords: n values by places, then those of the keywords ks; gV orders them -/
structure CalN (P : Program) (w : World) (K : PySem.W.Frag) (mg : Str → Option Value) (base : Heap) (CX : CXT) (k n : Nat) (ks : List Str) (x : Str) (sp : Sp) (gV : List V → List V → List V) : Prop where
  ex : ∃ (f : Addr) (fd : FuncData) (ps : List Str) (g : List Value → List Value → List Value), mg x = some (.ref f) ∧ PySem.W.keepIn K (.ref f) = true ∧ FnOk P w K mg base CX k f fd ps sp ∧ KBn K fd ps n ks g gV
/-- defaults fill up -/
structure CalD (P : Program) (w : World) (K : PySem.W.Frag) (mg : Str → Option Value) (base : Heap) (CX : CXT) (k : Nat) (x : Str) (sp : Sp) (dvs : List V) : Prop where
  ex : ∃ (f : Addr) (fd : FuncData) (ps : List Str) (ds : List Value), mg x = some (.ref f) ∧ PySem.W.keepIn K (.ref f) = true ∧ FnOk P w K mg base CX k f fd ps sp ∧ Binds K fd ps ds ∧ Vals dvs ds
/-- a method's def, by itself -/
structure Own (P : Program) (w : World) (K : PySem.W.Frag) (mg : Str → Option Value) (base : Heap) (CX : CXT) (k : Nat) (f : Addr) (fd : FuncData) (ps : List Str) (sp : Sp) : Prop where
  ok : FnOk P w K mg base CX k f fd ps sp
  bd : Binds K fd ps []
  kp : PySem.W.keepIn K (.ref f) = true
section
variable {X : Cx} {CX : CXT} {k j n : Nat} {ks : List Str} {sp : Sp} {E : XK} {x : Str} {p pos : Pos} {e : Expr} {es : List Expr} {kws : List Keyword} {t tk : TA} {gV : List V → List V → List V} {dvs : List V}
theorem pe_cal (c : CalD X.prog X.w X.K X.mg X.base CX0 k x sp []) (hr : Room j X.A) (hk : k ≤ j) (hg : Gl X x) (ha : PA X (e :: es) t)
    (hdb : (x == ("__debug__" : Str)) = false := by decide) (he : starEach (e :: es) X.env = (false, eval e X.env) :: starEach es X.env := by rfl) (hpl : (backTo pos (starEach es X.env)).any (·.1) = false := by rfl) :
    PE X (.Call (.Name x p) (e :: es) [] pos) (tCall sp [] E0 t) := by
  obtain ⟨f, fd, ps, ds, h1, h2, h3, h4, h5⟩ := c.ex
  exact pe_call h3 (hr.mono hk) hg h1 h2 h4 h5 pass0 ha hdb he hpl
theorem pe_calD (c : CalD X.prog X.w X.K X.mg X.base CX0 k x sp dvs) (hr : Room j X.A) (hk : k ≤ j) (hg : Gl X x) (ha : PA X (e :: es) t)
    (hdb : (x == ("__debug__" : Str)) = false := by decide) (he : starEach (e :: es) X.env = (false, eval e X.env) :: starEach es X.env := by rfl) (hpl : (backTo pos (starEach es X.env)).any (·.1) = false := by rfl) :
    PE X (.Call (.Name x p) (e :: es) [] pos) (tCall sp dvs E0 t) := by
  obtain ⟨f, fd, ps, ds, h1, h2, h3, h4, h5⟩ := c.ex
  exact pe_call h3 (hr.mono hk) hg h1 h2 h4 h5 pass0 ha hdb he hpl
theorem pe_cal0 (c : CalD X.prog X.w X.K X.mg X.base CX0 k x sp []) (hr : Room j X.A) (hk : k ≤ j) (hg : Gl X x) (hdb : (x == ("__debug__" : Str)) = false := by decide) :
    PE X (.Call (.Name x p) [] [] pos) (tCall sp [] E0 tNil) := by
  obtain ⟨f, fd, ps, ds, h1, h2, h3, h4, h5⟩ := c.ex
  exact pe_call0 h3 (hr.mono hk) hg h1 h2 h4 h5 pass0 hdb
theorem pe_calN (c : CalN X.prog X.w X.K X.mg X.base CX0 k n ks x sp gV) (hr : Room k X.A) (hg : Gl X x) (ha : PA X (e :: es) t) (hkw : PK X kws tk)
    (hall : (backToKw pos (keywordEach kws X.env)).all (·.1.isSome) = true := by rfl) (hks : (backToKw pos (keywordEach kws X.env)).filterMap (·.1) = ks := by rfl)
    (hdb : (x == ("__debug__" : Str)) = false := by decide) (he : starEach (e :: es) X.env = (false, eval e X.env) :: starEach es X.env := by rfl)
    (hpl : ((backTo pos (starEach (e :: es) X.env)).any (·.1) || (backToKw pos (keywordEach kws X.env)).any (·.1.isNone)) = false := by rfl) :
    PE X (.Call (.Name x p) (e :: es) kws pos) (tCallN n ks.length sp gV E0 t tk) := by
  obtain ⟨f, fd, ps, g, h1, h2, h3, h4⟩ := c.ex
  exact pe_callN h3 hr hg h1 h2 h4 pass0 ha hkw hall hks hdb he hpl
theorem pe_calN0 (c : CalN X.prog X.w X.K X.mg X.base CX0 k 0 ks x sp gV) (hr : Room k X.A) (hg : Gl X x) (hkw : PK X kws tk)
    (hall : (backToKw pos (keywordEach kws X.env)).all (·.1.isSome) = true := by rfl) (hks : (backToKw pos (keywordEach kws X.env)).filterMap (·.1) = ks := by rfl)
    (hdb : (x == ("__debug__" : Str)) = false := by decide)
    (hpl : ((backTo pos (starEach [] X.env)).any (·.1) || (backToKw pos (keywordEach kws X.env)).any (·.1.isNone)) = false := by rfl) :
    PE X (.Call (.Name x p) [] kws pos) (tCallN 0 ks.length sp gV E0 tNil tk) := by
  obtain ⟨f, fd, ps, g, h1, h2, h3, h4⟩ := c.ex
  exact pe_callN0 h3 hr hg h1 h2 h4 pass0 hkw hall hks hdb hpl
end
theorem CalD.mk' {P : Program} {w : World} {K : PySem.W.Frag} {mg : Str → Option Value} {base : Heap} {CX : CXT} {k : Nat} {x : Str} {sp : Sp} {f : Addr} {fd : FuncData} {ps : List Str} (g : mg x = some (.ref f)) (kp : PySem.W.keepIn K (.ref f) = true) (F : FnOk P w K mg base CX k f fd ps sp) (b : Binds K fd ps []) :
    CalD P w K mg base CX k x sp [] := ⟨f, fd, ps, [], g, kp, F, b, .nil⟩
/-! ## 3. going through a reading -/
section
variable {K : PySem.W.Frag} {σ : L2.St} {H : Hp} {ta tb tc te : TE} {t u : TT} {x y v : V} {Q : VK} {QB : Bool → Hp → Prop} {QL : List V → Hp → Prop} {r r' : R2} {D : Ends} {a b : TS} {tr : TA}
theorem r_var {i : Nat} (h : σ[i]? = some (some v)) (q : Q v H) : tVar i σ H Q := ⟨v, h, q⟩
theorem r_c (q : Q v H) : tC v σ H Q := q
theorem r_op (q : ta σ H fun x H1 => tb σ H1 fun y H2 => r x y H2 Q) : tOp r ta tb σ H Q := q
theorem r_un {r : V → Hp → VK → Prop} (q : ta σ H fun x H1 => r x H1 Q) : tUn r ta σ H Q := q
theorem r_I0 {g : Int → Int → V} {i j : Int} (q : Q (g i j) H) : rI0 g (.int i) (.int j) H Q := ⟨i, j, rfl, rfl, q⟩
theorem r_I {C : Int → Int → Prop} {g : Int → Int → V} {i j : Int} (c : C i j) (q : Q (g i j) H) : rI C g (.int i) (.int j) H Q := ⟨i, j, rfl, rfl, c, q⟩
theorem r_U {g : Int → V} {i : Int} (q : Q (g i) H) : rU g (.int i) H Q := ⟨i, rfl, q⟩
theorem r_eq (s : scal x y = true) (q : Q (.bl (decide (x = y))) H) : rEq x y H Q := ⟨s, q⟩
theorem r_ne (s : scal x y = true) (q : Q (.bl (!decide (x = y))) H) : rNe x y H Q := ⟨s, q⟩
theorem r_nil (q : QL [] H) : tNil σ H QL := q
theorem r_cons (q : ta σ H fun x H1 => tr σ H1 fun xs H2 => QL (x :: xs) H2) : tCons ta tr σ H QL := q
theorem r_call {sp : Sp} {dvs : List V} {E : XK} (q : tr σ H fun vs H1 => sp (vs ++ dvs) H1 Q E) : tCall sp dvs E tr σ H Q := q
theorem r_callN {n m : Nat} {sp : Sp} {gV : List V → List V → List V} {E : XK} {tk : TA} (q : tr σ H fun vs H1 => tk σ H1 fun zs H2 => vs.length = n ∧ zs.length = m ∧ sp (gV vs zs) H2 Q E) : tCallN n m sp gV E tr tk σ H Q := q
theorem r_cb {rc : List V → Hp → VK → Prop} (q : tr σ H fun vs H1 => rc vs H1 Q) : tCB rc tr σ H Q := q
theorem r_ret (q : te σ H D.rt) : tRet te D σ H := q
theorem r_seq (q : a { D with nx := b D } σ H) : tSeq a b D σ H := q
theorem r_asg {g : TG} (q : te σ H fun x H1 => g x σ H1 D.nx) : tAsg te g D σ H := q
theorem r_name {i : Nat} {Qs : L2.St → Hp → Prop} (q : Qs (σ.set i (some v)) H) : gName i v σ H Qs := q
theorem r_if (q : t σ H fun b' H1 => if b' = true then a D σ H1 else b D σ H1) : tIfS t a b D σ H := q
theorem r_next (q : D.nx σ H) : tNext D σ H := q
theorem r_drop (q : te σ H fun _ H1 => D.nx σ H1) : tDrop te D σ H := q
theorem r_test (q : te σ H fun x H' => ∃ k, x = .bl k ∧ QB k H') : tTest te σ H QB := q
theorem r_tB (q : te σ H fun x H' => ∃ k, x = .bl k ∧ QB k H') : tB te σ H QB := q
theorem r_isb {k : Bool} (q : QB k H) : ∃ k', V.bl k = .bl k' ∧ QB k' H := ⟨k, rfl, q⟩
theorem r_isv {k : Bool} {A : Bool → Prop} (q : A k) : ∃ k', V.bl k = .bl k' ∧ A k' := ⟨k, rfl, q⟩
theorem r_not (q : t σ H fun c H1 => QB (!c) H1) : tNot t σ H QB := q
theorem r_and (q : t σ H fun c H1 => if c = true then u σ H1 QB else QB false H1) : tAnd t u σ H QB := q
theorem r_or (q : t σ H fun c H1 => if c = true then QB true H1 else u σ H1 QB) : tOr t u σ H QB := q
theorem r_andV (q : ta σ H fun x H1 => ∃ c, x = .bl c ∧ if c = true then tb σ H1 Q else Q (.bl false) H1) : tAndV ta tb σ H Q := q
theorem r_orV (q : ta σ H fun x H1 => ∃ c, x = .bl c ∧ if c = true then Q (.bl true) H1 else tb σ H1 Q) : tOrV ta tb σ H Q := q
theorem r_notV (q : ta σ H fun x H1 => ∃ c, x = .bl c ∧ Q (.bl (!c)) H1) : tNotV ta σ H Q := q
theorem r_chain (q : ta σ H fun x H1 => tb σ H1 fun y H2 => r x y H2 fun z H3 => ∃ k, z = .bl k ∧ (if k = true then tc σ H3 fun w' H4 => r' y w' H4 Q else Q (.bl false) H3)) : tChain r r' ta tb tc σ H Q := q
theorem r_ifE (q : t σ H fun c H1 => if c = true then ta σ H1 Q else tb σ H1 Q) : tIf t ta tb σ H Q := q
theorem r_isN (q : Q (.bl (decide (x = .non))) H) : (fun x y H Q => y = V.non ∧ Q (.bl (decide (x = .non))) H : R2) x .non H Q := ⟨rfl, q⟩
def NewL (xs : List V) (H : Hp) (Q : VK) : Prop := xs.length ≤ sizeLine ∧ ∀ p, H p = none → Q (.ref p) (upd H p (.lst xs))
def NewT (xs : List V) (H : Hp) (Q : VK) : Prop := xs.length ≤ sizeLine ∧ ∀ p, H p = none → Q (.ref p) (upd H p (.tup xs))
theorem r_lst (q : tr σ H fun xs H1 => NewL xs H1 Q) : tLst tr σ H Q := q
theorem r_tup (q : tr σ H fun xs H1 => NewT xs H1 Q) : tTup tr σ H Q := q
theorem same_upd {p : Addr} {o : HO} (h : H p = none) : Same H (upd H p o) := fun b x e => by
  rw [upd_ne (ne_of_none e h)]
  exact e
/-- a new object: the heap behind it by what stands in it -/
theorem newL {xs : List V} (q : ∀ p H', H p = none → Same H H' → H' p = some (.lst xs) → Q (.ref p) H') (hl : xs.length ≤ 10000 := by exact Nat.le_of_ble_eq_true rfl) : NewL xs H Q :=
  ⟨Nat.le_trans hl (by decide), fun p hp => q p _ hp (same_upd hp) upd_same⟩
theorem newT {xs : List V} (q : ∀ p H', H p = none → Same H H' → H' p = some (.tup xs) → Q (.ref p) H') (hl : xs.length ≤ 10000 := by exact Nat.le_of_ble_eq_true rfl) : NewT xs H Q :=
  ⟨Nat.le_trans hl (by decide), fun p hp => q p _ hp (same_upd hp) upd_same⟩
def NewDK (kvs : List (Key × V)) (H : Hp) (Q : VK) : Prop := ∀ p, H p = none → Q (.ref p) (upd H p (.dK kvs))
theorem r_dnewK (q : NewDK [] H Q) : tDNewK σ H Q := q
theorem newDK {kvs : List (Key × V)} (q : ∀ p H', H p = none → Same H H' → H' p = some (.dK kvs) → Q (.ref p) H') : NewDK kvs H Q := fun p hp => q p _ hp (same_upd hp) upd_same
def MkV (C : Addr) (sp : Sp) (dvs vs : List V) (H : Hp) (Q : VK) : Prop := vs.length ≤ 1000 ∧ ∀ a, H a = none → sp (.ref a :: (vs ++ dvs)) (upd H a (exo a C none)) (fun v H2 => v = .non ∧ Q (.ref a) H2) (fun _ _ _ => False)
theorem r_mkV {C : Addr} {sp : Sp} {dvs : List V} (q : tr σ H fun vs H1 => MkV C sp dvs vs H1 Q) : tMkV C sp dvs tr σ H Q := q
def ForL (J : It) (g : TG) (tb : TS) (D : Ends) (σ : L2.St) (H : Hp) : Prop := ∃ W : Nat → Nat → L2.St → Hp → Prop, (∃ m, W 0 m σ H) ∧ ∀ i m σ H, W i m σ H →
  (J.stop i H ∧ D.nx σ H) ∨ (J.go i H ∧ ∃ N : L2.St → Hp → Prop, (∀ σ' H', N σ' H' → ∃ m', m' < m ∧ W (i + 1) m' σ' H') ∧ ∀ x H', J.yld i H x H' → g x σ H' fun σ2 H2 => tb { D with nx := N, ct := N, bk := D.nx } σ2 H2)
theorem r_for {wi : TI} {g : TG} (q : wi σ H fun J H1 => ForL J g a D σ H1) : tFor wi g a D σ H := q
theorem r_iList {tl : TE} {R : It → Hp → Prop} (q : tl σ H fun x H1 => ∃ p, x = .ref p ∧ (∃ xs, SqL K H1 p xs) ∧ R (Itl K p) H1) : iList K tl σ H R := q
theorem r_iTup {tl : TE} {R : It → Hp → Prop} (q : tl σ H fun x H1 => ∃ p, x = .ref p ∧ (∃ xs, SqT K H1 p xs) ∧ R (Itt K p) H1) : iTup K tl σ H R := q
theorem r_iRng1 {R : It → Hp → Prop} (q : tr σ H fun vs H1 => ∃ j : Int, vs = [.int j] ∧ -(2 ^ 62) ≤ j ∧ j < 2 ^ 62 ∧ R (Itr 0 j.toNat) H1) : iRng1 tr σ H R := q
theorem r_iRng2 {R : It → Hp → Prop} (q : tr σ H fun vs H1 => ∃ i j : Int, vs = [.int i, .int j] ∧ (-(2 ^ 62) ≤ i ∧ i < 2 ^ 62 ∧ -(2 ^ 62) ≤ j ∧ j < 2 ^ 62) ∧ R (Itr i (j - i).toNat) H1) : iRng2 tr σ H R := q
theorem r_ixL {p : Addr} {xs : List V} {i : Int} (h : SqL K H p xs) (ha : atI xs i = some v) (q : Q v H) : rIxL K (.ref p) (.int i) H Q := ⟨p, xs, i, v, rfl, rfl, h, ha, q⟩
theorem r_ixT {p : Addr} {xs : List V} {i : Int} (h : SqT K H p xs) (ha : atI xs i = some v) (q : Q v H) : rIxT K (.ref p) (.int i) H Q := ⟨p, xs, i, v, rfl, rfl, h, ha, q⟩
theorem r_gSub {to ti : TE} {ts : TSet} {Qs : L2.St → Hp → Prop} (q : to σ H fun o H1 => ti σ H1 fun i H2 => ts o i v H2 fun H3 => Qs σ H3) : gSub to ti ts v σ H Qs := q
theorem r_bm {T : String} {rm : V → List V → Hp → VK → Prop} {to : TE} (q : to σ H fun x H1 => tyV K T x H1 ∧ tr σ H1 fun xs H2 => rm x xs H2 Q) : tBM K T rm to tr σ H Q := q
theorem iteNF {A B : Prop} (h : B) : if (!true) = true then A else B := iteF h
theorem iteNT {A B : Prop} (h : A) : if (!false) = true then A else B := iteT h
theorem iteD {c A B : Prop} [Decidable c] (hc : c) (h : A) : if decide c = true then A else B := by rw [decide_eq_true hc]; exact iteT h
theorem iteDn {c A B : Prop} [Decidable c] (hc : ¬ c) (h : B) : if decide c = true then A else B := by rw [decide_eq_false hc]; exact iteF h
theorem iteND {c A B : Prop} [Decidable c] (hc : c) (h : B) : if (!decide c) = true then A else B := by rw [decide_eq_true hc]; exact iteF h
theorem iteNDn {c A B : Prop} [Decidable c] (hc : ¬ c) (h : A) : if (!decide c) = true then A else B := by rw [decide_eq_false hc]; exact iteT h
/-- a test that is open: both ways, by what it says -/
theorem iteC {c A B : Prop} [Decidable c] (h1 : c → A) (h2 : ¬ c → B) : if decide c = true then A else B := by
  by_cases h : c
  · exact iteD h (h1 h)
  · exact iteDn h (h2 h)
theorem iteNC {c A B : Prop} [Decidable c] (h1 : ¬ c → A) (h2 : c → B) : if (!decide c) = true then A else B := by
  by_cases h : c
  · exact iteND h (h2 h)
  · exact iteNDn h (h1 h)
theorem iteB {b : Bool} {A B : Prop} (h1 : b = true → A) (h2 : b = false → B) : if b = true then A else B := by
  cases b
  · exact iteF (h2 rfl)
  · exact iteT (h1 rfl)
theorem iteNB {b : Bool} {A B : Prop} (h1 : b = false → A) (h2 : b = true → B) : if (!b) = true then A else B := by
  cases b
  · exact iteT (h1 rfl)
  · exact iteF (h2 rfl)
theorem r_m1 {rm : V → List V → Hp → VK → Prop} {to te : TE} (q : to σ H fun x H1 => (∃ a, x = .str a) ∧ te σ H1 fun y H2 => rm x [y] H2 Q) : tM1 rm to te σ H Q := q
theorem r_len {z : Str} (h : z.length ≤ 100000) (q : Q (.int z.length) H) : ∃ z', [V.str z] = [V.str z'] ∧ z'.length ≤ sizeLine ∧ Q (.int z'.length) H := ⟨z, rfl, Nat.le_trans h (by decide), q⟩
theorem sqL {p : Addr} {xs : List V} (h : H p = some (.lst xs)) : SqL K H p xs := .inl (.inl h)
theorem sqT {p : Addr} {xs : List V} (h : H p = some (.tup xs)) : SqT K H p xs := .inl (.inl h)
end
end Bk

namespace Bk
open PySem PySem.Spec PyProof.Rows L2
/-! ## 4. what isinstance answers -/
def IsA (K : PySem.W.Frag) (H : Hp) (x : V) (T : String) (b : Bool) : Prop :=
  (∃ t, TyX K H x t ∧ PySem.W.kitOne K t (.type T) = some b) ∨ (∃ (a D dx : Addr) (fs : List (Str × V)), x = .ref a ∧ XV H a D dx fs ∧ ExcC K D ∧ PySem.W.kitOne K (.ref D) (.type T) = some b)
section
variable {K : PySem.W.Frag} {H H' : Hp} {x : V} {T : String} {b : Bool} {Q : VK}
theorem r_is (h : IsA K H x T b) (q : Q (.bl b) H) : rIs K [x, .ty T] H Q := by
  rcases h with ⟨t, h1, h2⟩ | ⟨a, D, dx, fs, rfl, h1, h2, h3⟩
  · exact .inl ⟨x, .ty T, t, .type T, b, rfl, .ty T, h1, h2, q⟩
  · exact .inr ⟨a, D, dx, fs, .ty T, .type T, b, rfl, h1, h2, .ty T, h3, q⟩
theorem isa_int {i : Int} (h : kitB "int" T = some b := by decide +kernel) : IsA K H (.int i) T b := .inl ⟨.type "int", .base (.int i), kit_ty h⟩
theorem isa_bl {c : Bool} (h : kitB "bool" T = some b := by decide +kernel) : IsA K H (.bl c) T b := .inl ⟨.type "bool", .base (.bl c), kit_ty h⟩
theorem isa_str {z : Str} (h : kitB "str" T = some b := by decide +kernel) : IsA K H (.str z) T b := .inl ⟨.type "str", .base (.str z), kit_ty h⟩
theorem isa_non (h : kitB "NoneType" T = some b := by decide +kernel) : IsA K H .non T b := .inl ⟨.type "NoneType", .base .non, kit_ty h⟩
theorem isa_lst {a : Addr} {xs : List V} (e : H a = some (.lst xs)) (h : kitB "list" T = some b := by decide +kernel) : IsA K H (.ref a) T b := .inl ⟨.type "list", .base (.lst e), kit_ty h⟩
theorem isa_tup {a : Addr} {xs : List V} (e : H a = some (.tup xs)) (h : kitB "tuple" T = some b := by decide +kernel) : IsA K H (.ref a) T b := .inl ⟨.type "tuple", .base (.tup e), kit_ty h⟩
theorem isa_dK {a : Addr} {kvs : List (Key × V)} (e : H a = some (.dK kvs)) (h : kitB "dict" T = some b := by decide +kernel) : IsA K H (.ref a) T b := .inl ⟨.type "dict", .base (.dK e), kit_ty h⟩
theorem isa_exc {a D dx : Addr} {fs : List (Str × V)} (e : XV H a D dx fs) (C : ExcC K D) (h : PySem.W.kitOne K (.ref D) (.type T) = some b) : IsA K H (.ref a) T b := .inr ⟨a, D, dx, fs, rfl, e, C, h⟩
end
/-! ## 5. the box of draws -/
def Box (a : Addr) (n : Nat) (H : Hp) : Prop := ∃ x y z : Int, H a = some (.lst [.int x, .int y, .int z]) ∧ 0 ≤ x ∧ 0 ≤ y ∧ y < 2147483629 ∧ 0 ≤ z ∧ z ≤ (n : Int)
/-- all but what stands at a is as it was -/
def But (a : Addr) (H H' : Hp) : Prop := ∀ b o, b ≠ a → H b = some o → H' b = some o
theorem But.refl {a : Addr} {H : Hp} : But a H H := fun _ _ _ h => h
theorem But.trans {a : Addr} {H H1 H2 : Hp} (x : But a H H1) (y : But a H1 H2) : But a H H2 := fun b o n e => y b o n (x b o n e)
theorem But.same {a : Addr} {H H1 H2 : Hp} (x : But a H H1) (y : Same H1 H2) : But a H H2 := fun b o n e => y b o (x b o n e)
theorem But.of {a : Addr} {H H1 : Hp} (y : Same H H1) : But a H H1 := fun b o _ e => y b o e
theorem But.upd {a : Addr} {H : Hp} {o : HO} : But a H (upd H a o) := fun b u n e => by rw [upd_ne n]; exact e
theorem Box.same {a : Addr} {n : Nat} {H H' : Hp} (h : Box a n H) (s : Same H H') : Box a n H' := by
  obtain ⟨x, y, z, e, r⟩ := h
  exact ⟨x, y, z, s _ _ e, r⟩
theorem Box.mono {a : Addr} {n m : Nat} {H : Hp} (h : Box a n H) (l : n ≤ m) : Box a m H := by
  obtain ⟨x, y, z, e, r1, r2, r3, r4, r5⟩ := h
  exact ⟨x, y, z, e, r1, r2, r3, r4, by omega⟩
theorem Box.ne {a p : Addr} {n : Nat} {H : Hp} (h : Box a n H) (hp : H p = none) : p ≠ a := by
  obtain ⟨x, y, z, e, _⟩ := h
  exact (ne_of_none e hp).symm
theorem Box.ne_tup {a p : Addr} {n : Nat} {H : Hp} {xs : List V} (h : Box a n H) (hp : H p = some (.tup xs)) : p ≠ a := by
  obtain ⟨x, y, z, e, _⟩ := h
  exact fun q => by rw [q, e] at hp; cases hp
def spCell (K : PySem.W.Frag) : Sp := fun vs H Q _ => ∃ (a : Addr) (ns : List Int) (k : Nat), vs = [.ref a, .int k] ∧ SqL K H a (ns.map V.int) ∧ k ≤ 100000 ∧ ∀ c, Q (.int c) H
def spBox : Sp := fun vs H Q _ => ∃ c : Int, vs = [.int c] ∧ ∀ p H', H p = none → Same H H' → Box p 0 H' → Q (.ref p) H'
def spTake : Sp := fun vs H Q _ => ∃ (a : Addr) (n : Nat) (size : Int), vs = [.ref a, .int size] ∧ Box a n H ∧ n < 1000000 ∧ 0 < size ∧ size < 2 ^ 128 ∧
  ∀ d H', 0 ≤ d → d < size → Box a (n + 1) H' → But a H H' → Q (.int d) H'
theorem cdiv {i j : Int} (h : 0 < j) (h2 : j < 2 ^ 128) : CDivW i j := wide_div (b := 128) h (by omega) (by decide) (by decide)
theorem cmul {i j : Int} (h1 : -(2 ^ 128) < i) (h2 : i < 2 ^ 128) (h3 : -(2 ^ 128) < j) (h4 : j < 2 ^ 128) : CMulW i j := wide_mul (a := 128) (b := 128) (by omega) (by omega) (by decide) (by decide) (by decide)
theorem at_map {ns : List Int} {k : Nat} (h : k < ns.length) : atI (ns.map V.int) ((k : Nat) : Int) = some (.int ns[k]) := atI_nat (by rw [List.getElem?_map, List.getElem?_eq_getElem h]; rfl)
end Bk

namespace Bk
open PySem PySem.Spec PyProof.Rows L2
theorem sameBut {H H' : Hp} {D : Addr} {o : HO} (h : Same H H') (n : H D = none) : Same H (upd H' D o) := fun b u e => by
  rw [upd_ne (ne_of_none e n)]
  exact h b u e
/-! ## 6. a comprehension over a text's signs, all of it -/
section
variable {K : PySem.W.Frag} {σ : L2.St} {H : Hp} {Q : VK} {te : TE}
/-- the list of p of each sign -/
theorem r_lcStr {i0 j : Nat} {vs : List Nat} {z : Str} (p : Nat → V) (hv : σ[i0]? = some (some (.str z))) (hz : z.length ≤ 100000)
    (hw : ∀ x, wipe ((wipe σ vs).set j (some x)) vs = wipe σ vs)
    (ht : ∀ (c : Nat) (H' : Hp) (Q' : VK), c ∈ z.cps.toList → Same H H' → (∀ H2, Same H' H2 → Q' (p c) H2) → te ((wipe σ vs).set j (some (.str ⟨#[c]⟩))) H' Q')
    (q : ∀ D H', H D = none → Same H H' → H' D = some (.lst (z.cps.toList.map p)) → Q (.ref D) H') :
    tLc (iStr (tVar i0)) (gName j) tYes te vs σ H Q := by
  refine ⟨_, hv, z, rfl, fun D hD => ?_⟩
  refine lc_it (n := z.cps.size) walk_str (fun i H' => Same H H' ∧ H' D = some (.lst ((z.cps.toList.take i).map p))) ⟨same_upd hD, by rw [upd_same]; rfl⟩ (fun _ _ _ _ => trivial) ?_ ?_
  · rintro i x H1 H2 hi ⟨sm, e⟩ ⟨rfl, c, hc, rfl⟩
    have hc' : z.cps.toList[i]? = some c := by rw [Array.getElem?_toList]; exact hc
    refine ⟨hw _, ?_⟩
    show te _ _ _
    refine ht c _ _ (List.mem_of_getElem? hc') sm fun H3 s3 => ⟨_, s3 _ _ e, ?_, sameBut (sm.trans s3) hD, ?_⟩
    · have l : ((z.cps.toList.take i).map p).length ≤ z.cps.size := by
        rw [List.length_map, List.length_take, Array.length_toList]
        omega
      have hz' : z.cps.size ≤ 100000 := hz
      exact Nat.lt_of_le_of_lt (Nat.le_trans l hz') (by decide)
    · rw [upd_same, List.take_add_one, hc', List.map_append]
      rfl
  · rintro H1 ⟨sm, e⟩
    refine q D H1 hD sm ?_
    rw [e]
    have l : z.cps.size = z.cps.toList.length := (Array.length_toList).symm
    rw [l, List.take_length]
/-- all([p(sign) for sign in text]) -/
theorem r_allStr {i0 j : Nat} {vs : List Nat} {z : Str} (p : Nat → Bool) (hv : σ[i0]? = some (some (.str z))) (hz : z.length ≤ 100000)
    (hw : ∀ x, wipe ((wipe σ vs).set j (some x)) vs = wipe σ vs)
    (ht : ∀ (c : Nat) (H' : Hp) (Q' : VK), c ∈ z.cps.toList → Same H H' → (∀ H2, Same H' H2 → Q' (.bl (p c)) H2) → te ((wipe σ vs).set j (some (.str ⟨#[c]⟩))) H' Q')
    (q : ∀ H', Same H H' → Q (.bl (z.cps.toList.all p)) H') :
    tCB (rAll K) (tCons (tLc (iStr (tVar i0)) (gName j) tYes te vs) tNil) σ H Q := by
  refine r_cb (r_cons ?_)
  refine r_lcStr (fun c => .bl (p c)) hv hz hw ht fun D H' nD sm e => ?_
  refine r_nil ⟨D, z.cps.toList.map p, rfl, sqL ?_, ?_⟩
  · rw [e, List.map_map]
    rfl
  · rw [List.all_map]
    exact q H' sm
end
/-! ## 7. draws, items, slices -/
section
variable {K : PySem.W.Frag} {σ : L2.St} {H : Hp} {Q : VK} {E : XK} {te : TE} {tl th : TO} {QO : Option Int → Hp → Prop}
theorem r_take {a : Addr} {n : Nat} {size : Int} (hB : Box a n H) (q : ∀ d H', 0 ≤ d → d < size → Box a (n + 1) H' → But a H H' → Q (.int d) H') (hn : n < 1000000 := by omega) (h0 : 0 < size := by decide) (h1 : size < 2 ^ 128 := by decide) : spTake [.ref a, .int size] H Q E :=
  ⟨a, n, size, rfl, hB, hn, h0, h1, q⟩
theorem r_ixS {z : Str} {d : Int} (h0 : 0 ≤ d) (h1 : d < (z.cps.toList.length : Int)) (hz : z.length ≤ 100000) (q : ∀ c, z.cps.toList[d.toNat]? = some c → Q (.str ⟨#[c]⟩) H) : rIxS (.str z) (.int d) H Q := by
  have l : d.toNat < z.cps.toList.length := by omega
  obtain ⟨c, hc⟩ : ∃ c, z.cps.toList[d.toNat]? = some c := ⟨_, List.getElem?_eq_getElem l⟩
  refine ⟨z, d, c, rfl, rfl, Nat.le_trans hz (by decide), ?_, q c hc⟩
  have e : d = ((d.toNat : Nat) : Int) := by omega
  rw [e]
  exact atI_nat hc
theorem r_ixLo {p : Addr} {xs : List V} {d : Int} (h : SqL K H p xs) (h0 : 0 ≤ d) (h1 : d < (xs.length : Int)) (q : ∀ v, v ∈ xs → xs[d.toNat]? = some v → Q v H) : rIxL K (.ref p) (.int d) H Q := by
  have l : d.toNat < xs.length := by omega
  obtain ⟨v, hv⟩ : ∃ v, xs[d.toNat]? = some v := ⟨_, List.getElem?_eq_getElem l⟩
  refine r_ixL h (v := v) ?_ (q v (List.mem_of_getElem? hv) hv)
  have e : d = ((d.toNat : Nat) : Int) := by omega
  rw [e]
  exact atI_nat hv
theorem r_sl {r : V → Option Int → Option Int → Hp → VK → Prop} (q : te σ H fun x H1 => tl σ H1 fun l H2 => th σ H2 fun u H3 => r x l u H3 Q) : tSl r te tl th σ H Q := q
theorem r_noPart (q : QO none H) : tNoPart σ H QO := q
theorem r_part (q : te σ H fun x H1 => ∃ i, x = .int i ∧ QO (some i) H1) : tPart te σ H QO := q
theorem r_isi {i : Int} {A : Int → Prop} (q : A i) : ∃ i', V.int i = .int i' ∧ A i' := ⟨i, rfl, q⟩
theorem r_slS {z : Str} {lo hi : Option Int} (hz : z.length ≤ 100000) (q : ∀ y : Str, y.length ≤ z.length → Q (.str y) H) : rSlS (.str z) lo hi H Q := ⟨z, rfl, Nat.le_trans hz (by decide), q _ (cutS_length z lo hi)⟩
end
theorem r_cut {a b : TS} {D : Ends} {σ : L2.St} {H : Hp} (Mid : L2.St → Hp → Prop) (h1 : a { D with nx := Mid } σ H) (h2 : ∀ σ' H', Mid σ' H' → b D σ' H') : C8.tCut a b D σ H := ⟨Mid, h1, h2⟩
theorem str_len_add (x y : Str) : (x ++ y).length = x.length + y.length := by
  have h : ∀ z : Str, z.length = z.cps.toList.length := fun z => (Array.length_toList).symm
  rw [h, h, h]; show (TL.tl (x ++ y)).length = _; rw [TL.tl_append]
  exact List.length_append
theorem lt1 {c d : Nat} : decide ([c] < [d]) = decide (c < d) := by
  by_cases h : c < d
  · rw [decide_eq_true h]
    exact decide_eq_true (List.Lex.rel h)
  · rw [decide_eq_false h]
    refine decide_eq_false fun z => ?_
    cases z with
    | rel q => exact h q
    | cons q => cases q
theorem sign_tl {c : Nat} : (⟨#[c]⟩ : Str).cps.toList = [c] := rfl
/-- a text begins with this sign -/
theorem starts1 (z : Str) (c : Nat) : Txt.startswith z ⟨#[c]⟩ = decide (z.cps.toList[0]? = some c) := by
  have h := PySem.StrLaws.subAt_one z c 0
  unfold Txt.startswith
  by_cases e : z.cps.toList[0]? = some c
  · obtain ⟨h1, h2⟩ := h.mpr e
    rw [decide_eq_true e, h2, decide_eq_true h1]
    rfl
  · rw [decide_eq_false e]
    by_cases h1 : 0 + (⟨#[c]⟩ : Str).length ≤ z.length
    · rw [decide_eq_true h1, Bool.true_and]
      exact Bool.eq_false_iff.mpr fun h2 => e (h.mp ⟨h1, h2⟩)
    · rw [decide_eq_false h1]
      rfl
end Bk

namespace Bk
open PySem PySem.Spec PyProof.Rows L2
/-! ## 9. defs that are run where no text is being told of a thing -/
structure FnG (P : Program) (w : World) (K : PySem.W.Frag) (mg : Str → Option Value) (base : Heap) (CX : CXT) (k : Nat) (f : Addr) (fd : FuncData) (ps : List Str) (sp : Sp) : Prop where
  len : ∀ vs H Q E, sp vs H Q E → vs.length = ps.length
  go : ∀ (A : Around) (ou : List Env) (s : Shared) (H : Hp) (ar : Args) (us : List Value) (vs : List V) (Q : VK) (E : XK), A.guards = some [] → Room k A → Env0 P w K mg base A ou s H → BindsTo s fd ar (ps.zip us) → Vals vs us → sp vs H Q E →
    codeAny (model P w) A (.call (.ref f) ar) (CR CX ou P w H s Q E) s
section
variable {P : Program} {w : World} {K : PySem.W.Frag} {mg : Str → Option Value} {base : Heap} {CX : CXT} {j k : Nat} {f : Addr} {fd : FuncData} {N ps : List Str} {sp : Sp} {x qual : Str} {st : Stmt}
theorem FnG.of (F : FnOk P w K mg base CX k f fd ps sp) : FnG P w K mg base CX k f fd ps sp := ⟨F.len, fun A ou s H ar us vs Q E _ => F.run A ou s H ar us vs Q E⟩
theorem FnG.up (F : FnG P w K mg base CX j f fd ps sp) (h : j ≤ k) : FnG P w K mg base CX k f fd ps sp := ⟨F.len, fun A ou s H ar us vs Q E g hr => F.go A ou s H ar us vs Q E g (hr.mono h)⟩
/-- by its body -/
theorem fun_okG (F : Fun K x qual st f fd) (S : FnScope N ps (defScope st)) (len : ∀ vs H Q E, sp vs H Q E → vs.length = ps.length)
    (hbody : ∀ (cdv : Value) (A : Around) (ou : List Env) (s : Shared) (H : Hp) (vs : List V) (Q : VK) (E : XK), (A.deeper (envOfC qual (defScope st) s.heap.objs.size f cdv)).guards = some [] → Room k (A.deeper (envOfC qual (defScope st) s.heap.objs.size f cdv)) → sp vs H Q E →
      ∃ t, PSs (cxOf CX0 P w K mg base N qual (defScope st) f cdv A ou s H E).nox (defBody st) t ∧ t { nx := fun _ H' => Q .non H', rt := Q } (start N vs) H) : FnG P w K mg base CX0 (k + 1) f fd ps sp := by
  obtain ⟨oc, od, kV, doc, pm, an, cdv, ct, osl, rfl, lk, hcd⟩ := F.ex
  refine ⟨len, fun A ou s H ar us vs Q E hg hr e0 hb rv hsp => ?_⟩
  have KX : K.In s.heap := e0.mod.kin.keeps fun b o z => (e0.bs b o z).1
  refine Att.call_fn KX (e0.mod.nolimit.keeps fun b o z => (e0.bs b o z).1) lk hcd hr.depth hb ?_ (fun s1 x1 => ?_) S.co S.gen S.kind
  · rw [List.all_eq_true]
    rintro ⟨n, v⟩ hy
    rcases S.par n (List.of_mem_zip hy).1 with q | q <;> simp [q]
  · obtain ⟨t, ht, hq⟩ := hbody cdv A ou s H vs Q E hg (hr.deeper _) hsp
    have I := inv_start (CX := CX0) (E := E) S hr.hd e0 (len _ _ _ _ hsp) rv x1
    refine wpAny_mono (ht.nox.run [] s1 (start N vs) H _ I hq) (fun fl s2 z => ?_) fun _ _ z => z
    cases fl with
    | ret u => exact let ⟨v, _, H2, J, r2, q2⟩ := z; ⟨v, H2, J.os, J.bare, J.base, J.hok, r2, q2⟩
    | next => exact let ⟨_, H2, J, q2⟩ := z; ⟨.non, H2, J.os, J.bare, J.base, J.hok, rfl, q2⟩
    | brk => exact (let ⟨_, _, _, q2⟩ := z; q2 : False).elim
    | cont => exact (let ⟨_, _, _, q2⟩ := z; q2 : False).elim
end
structure CalG (P : Program) (w : World) (K : PySem.W.Frag) (mg : Str → Option Value) (base : Heap) (CX : CXT) (k : Nat) (x : Str) (sp : Sp) : Prop where
  ex : ∃ (f : Addr) (fd : FuncData) (ps : List Str), mg x = some (.ref f) ∧ PySem.W.keepIn K (.ref f) = true ∧ FnG P w K mg base CX k f fd ps sp ∧ Binds K fd ps []
theorem CalG.mk' {P : Program} {w : World} {K : PySem.W.Frag} {mg : Str → Option Value} {base : Heap} {CX : CXT} {k : Nat} {x : Str} {sp : Sp} {f : Addr} {fd : FuncData} {ps : List Str} (g : mg x = some (.ref f)) (kp : PySem.W.keepIn K (.ref f) = true) (F : FnG P w K mg base CX k f fd ps sp) (b : Binds K fd ps []) :
    CalG P w K mg base CX k x sp := ⟨f, fd, ps, g, kp, F, b⟩
section
variable {X : Cx} {k j : Nat} {sp : Sp} {x : Str} {p pos : Pos} {e : Expr} {es : List Expr} {t : TA}
theorem pe_calG (c : CalG X.prog X.w X.K X.mg X.base CX0 k x sp) (ga : X.A.guards = some []) (hr : Room j X.A) (hk : k ≤ j) (hg : Gl X x) (ha : PA X (e :: es) t)
    (hdb : (x == ("__debug__" : Str)) = false := by decide) (he : starEach (e :: es) X.env = (false, eval e X.env) :: starEach es X.env := by rfl) (hpl : (backTo pos (starEach es X.env)).any (·.1) = false := by rfl) :
    PE X (.Call (.Name x p) (e :: es) [] pos) (tCall sp [] E0 t) := by
  obtain ⟨f, fd, ps, h1, h2, h3, h4⟩ := c.ex
  refine ⟨fun pins s σ H Q I h => wpAny_Call_Name_kw (ld_glob I hg h1 (PySem.W.callWith_K (h₀ := X.base) I.ok.mod.kin h2 (thn (ha.run pos pins s σ H _ I h) fun us s1 ⟨vs, H1, I1, r, q⟩ => ⟨I1.kIn, ?_⟩) he hpl) hdb)⟩
  have q' : sp vs H1 Q E0 := by have z : sp (vs ++ []) H1 Q E0 := q; rw [List.append_nil] at z; exact z
  have b := h4 s1 us I1.kIn (by rw [List.append_nil, ← r.length]; exact h3.len _ _ _ _ q')
  rw [List.append_nil] at b
  refine wpAny_call (codeAny_mono (h3.go X.A X.stack s1 H1 ⟨us, []⟩ us vs Q E0 ga (hr.mono hk) I1.env0 b r q') fun rr s2 z => ?_)
  match rr, z with
  | .ok (.ret _), z => exact I1.after z
end
/-! ### the head -/
section
variable {P : Program} {w : World} {K : PySem.W.Frag} {mg mb : Str → Option Value} {s : Shared} {a : Addr} {vs : List Value} {ns : List Int} {H : Hp}
theorem lawG_core {k : Nat} {fa : Addr} {fd : FuncData} {x : Str} {sp : Sp} (KX : K.In s.heap) (hns : s.heap.Ns mainGlobals mg) (hb : s.heap.Ns builtinsNs mb) (hbb : ∀ x : Str, x ≠ "__name__" → mb x = bootBuiltins x) (hlim : s.heap.NoLimit) (hg : s.gens = #[])
    (ha : s.heap.get? a = some { cls := .type "list", data := .seq vs.toArray }) (hr : Room k callerA)
    (F : ∀ base : Heap, K.In base → base.Ns mainGlobals mg → FnG P w K mg base CX0 k fa fd [x] sp) (hbind : ∀ (s : Shared) (u : Value), BindsTo s fd ⟨[u], []⟩ [(x, u)])
    (hO : Only H) (hq : sp [.ref a] H (fun v _ => v = .bl true) fun _ _ _ => False) (ok : HOk P w H s.heap) (hA : ∀ b, H b ≠ none → b = a ∧ K.lookup a = none) :
    codeAny (model P w) callerA (.call (.ref fa) ⟨[.ref a], []⟩) (fun r s' => r = .ok (.ret (.bool true)) ∧ OldK s.heap s'.heap ∧ s'.os = s.os ∧ AllBare s'.gens) s := by
  have un : ∀ {b : Addr} {o : Obj}, s.heap.get? b = some o → (b = a → K.lookup a ≠ none ∨ ∃ es ep, o.data = .dict es ep) → (hidT s.heap H).get? b = some o := fun {b o} e n => hidT_get e (by
    apply Classical.byContradiction
    intro z
    obtain ⟨rfl, kn⟩ := hA b z
    rcases n rfl with q | ⟨es, ep, q⟩
    · exact q kn
    · rw [ha] at e
      cases e
      exact nomatch q)
  have nsK : ∀ {b : Addr} {m : Str → Option Value}, s.heap.Ns b m → (hidT s.heap H).Ns b m := fun ⟨o, es, ep, e, d, r⟩ => ⟨o, es, ep, un e fun _ => .inr ⟨es, ep, d⟩, d, r⟩
  have hKb : K.In (hidT s.heap H) := fun b o e => un (KX b o e) fun z => .inl (by rw [← z, e]; exact Option.some_ne_none o)
  have e0 : Env0 P w K mg (hidT s.heap H) callerA [] s H := ⟨rfl, ⟨hKb, nsK hns, ⟨mb, nsK hb, hbb⟩, hlim.elim fun mc z => ⟨mc, nsK z.1, z.2⟩⟩, fun b o z => of_hidT z, Nat.le_of_eq (hidT_size _ _), trivial, fun _ z => absurd z List.not_mem_nil, ok, .of_eq hg⟩
  refine codeAny_mono ((F _ hKb (nsK hns)).go callerA [] s H ⟨[.ref a], []⟩ [.ref a] [.ref a] _ _ rfl hr e0 (hbind s (.ref a)) (.cons rfl .nil) hq) fun r s' h => ?_
  match r, h with
  | .ok (.ret u), h =>
    obtain ⟨v, H2, os, bare, un2, ok2, rv, q2⟩ := h
    obtain rfl : v = .bl true := q2
    obtain rfl : u = Value.bool true := rv
    refine ⟨rfl, OldK.of_keep fun b o e => ?_, os, bare⟩
    rcases hO b with z | ⟨ob, xs, z⟩
    · exact un2.keep b o e z List.not_mem_nil List.not_mem_nil
    · have o1 := (ok b _ z).1
      have o2 := (ok2 b _ (un2.frzs b ob _ z)).1
      rw [e] at o1
      rw [o1]
      exact o2
theorem lawG {k : Nat} {fa : Addr} {fd : FuncData} {x : Str} {sp : Sp} (KX : K.In s.heap) (hns : s.heap.Ns mainGlobals mg) (hb : s.heap.Ns builtinsNs mb) (hbb : ∀ x : Str, x ≠ "__name__" → mb x = bootBuiltins x) (hlim : s.heap.NoLimit) (hg : s.gens = #[])
    (ha : s.heap.get? a = some { cls := .type "list", data := .seq vs.toArray }) (hi : IntsAre vs ns) (hl : ns.length ≤ sizeLine) (hr : Room k callerA)
    (F : ∀ base : Heap, K.In base → base.Ns mainGlobals mg → FnG P w K mg base CX0 k fa fd [x] sp) (hbind : ∀ (s : Shared) (u : Value), BindsTo s fd ⟨[u], []⟩ [(x, u)])
    (hsp : ∀ H : Hp, Only H → SqL K H a (ns.map V.int) → sp [.ref a] H (fun v _ => v = .bl true) fun _ _ _ => False) :
    codeAny (model P w) callerA (.call (.ref fa) ⟨[.ref a], []⟩) (fun r s' => r = .ok (.ret (.bool true)) ∧ OldK s.heap s'.heap ∧ s'.os = s.os ∧ AllBare s'.gens) s := by
  have rv := vals_ints hi
  cases hk : K.lookup a with
  | some o =>
    have e := KX a o hk
    rw [ha] at e
    cases e
    exact lawG_core KX hns hb hbb hlim hg ha hr F hbind (fun _ => .inl rfl) (hsp (fun _ => none) (fun _ => .inl rfl) (.inr ⟨_, vs.toArray, _, hk, rfl, rfl, rfl, by rw [List.size_toArray, hi.length]; exact hl, rv⟩)) (fun b u z => nomatch z) fun b z => absurd rfl z
  | none =>
    have ke : (fun b => if b = a then some (HO.frz { cls := .type "list", data := .seq vs.toArray } (.lst (ns.map V.int))) else none) a = some (HO.frz { cls := .type "list", data := .seq vs.toArray } (.lst (ns.map V.int))) := if_pos rfl
    have only : ∀ b, (fun b => if b = a then some (HO.frz { cls := .type "list", data := .seq vs.toArray } (.lst (ns.map V.int))) else none) b ≠ none → b = a := fun b z => Classical.byContradiction fun n => z (if_neg n)
    have hO : Only (fun b => if b = a then some (HO.frz { cls := .type "list", data := .seq vs.toArray } (.lst (ns.map V.int))) else none) := fun b => by
      by_cases q : b = a
      · exact .inr ⟨_, _, if_pos q⟩
      · exact .inl (if_neg q)
    refine lawG_core KX hns hb hbb hlim hg ha hr F hbind hO (hsp _ hO (.inl (.inr ⟨_, ke⟩))) (fun b u z => ?_) fun b z => ⟨only b z, hk⟩
    obtain rfl := only b fun y => nomatch z.symm.trans y
    have z2 := ke.symm.trans z
    cases z2
    exact ⟨ha, by rw [List.length_map]; exact hl, vs, _, rv, ha⟩
end
theorem walk_ofG {l : PySem.W.OpenLaw} {n k : Nat} {q : Program} {loose : List Str} {XP : (Str → Option Value) → Heap → Prop} {YP : World → Heap → Prop} {d : DefRec} {K : Params → PySem.W.Frag} {sp : World → Sp} {x : Str}
    (hn : l.most = some n) (hn2 : n ≤ sizeLine) (hdf : d.params.defaults = []) (hr : Room k callerA) (hY : ∀ (w : World) (h : Heap), YP w h → (K w.params).In h)
    (F : ∀ (w : World) (mg : Str → Option Value) (fa : Addr) (h : Heap), (K w.params).In h → h.Ns mainGlobals mg → mg d.name = some (.ref fa) →
      ∃ fd : FuncData, (∀ (s : Shared) (u : Value), BindsTo s fd ⟨[u], []⟩ [(x, u)]) ∧ ∀ base : Heap, (K w.params).In base → base.Ns mainGlobals mg → FnG l.prog w (K w.params) mg base CX0 k fa fd [x] (sp w))
    (hsp : ∀ (w : World) (H : Hp) (a : Addr) (ns : List Int), ns.length ≤ n → Only H → SqL (K w.params) H a (ns.map V.int) → sp w [.ref a] H (fun v _ => v = .bl true) fun _ _ _ => False) :
    PySem.W.WalkO q loose XP YP l.row.toRowW d [] (fun f vs => PySem.call f vs) :=
  Att.attach_call hn hdf fun w s₀ s₁ mg mb fa o pm cd doc a vs ns G Y ho hd hcd hmg hobj hints hlen hg => by
    obtain ⟨fd, hb, hF⟩ := F w mg fa _ (hY w _ Y) G.T.g hmg
    exact lawG (hY w _ Y) G.T.g G.T.b G.T.builtins G.T.nolimit hg hobj hints (Nat.le_trans hlen hn2) hr hF hb fun H hO hS => hsp w H a ns hlen hO hS
/-! ## 10. a thing's text -/
mutual
theorem dp_flat {K : PySem.W.Frag} {H : Hp} : ∀ (d : PyData) (v : V), Dp K H v d → d.hasDict = false
  | .none, _, _ => by simp only [PyData.hasDict]
  | .bool _, _, _ => by simp only [PyData.hasDict]
  | .int _, _, _ => by simp only [PyData.hasDict]
  | .str _, _, _ => by simp only [PyData.hasDict]
  | .list ds, _, h => by
    cases h with
    | lst _ ha => simpa only [PyData.hasDict] using dp_flatAll ds _ ha
  | .tuple ds, _, h => by
    cases h with
    | tup _ ha => simpa only [PyData.hasDict] using dp_flatAll ds _ ha
  | .dict _, _, h => by cases h
theorem dp_flatAll {K : PySem.W.Frag} {H : Hp} : ∀ (ds : List PyData) (vs : List V), DpAll K H vs ds → PyData.hasDictAll ds = false
  | [], _, _ => by simp only [PyData.hasDictAll]
  | d :: ds, _, h => by
    cases h with
    | cons h1 h2 => simp only [PyData.hasDictAll, dp_flat d _ h1, dp_flatAll ds _ h2, Bool.or_false]
end
/-- z is how repr tells v -/
def Shw (K : PySem.W.Frag) (H : Hp) (v : V) (z : Str) : Prop := (∃ d, Dp K H v d ∧ d.showable = true ∧ d.shown.length ≤ sizeLine ∧ d.depth ≤ 60 ∧ z = d.shown) ∨ ∃ a, v = .ref a ∧ H a = some (.dK []) ∧ z = "{}"
section
variable {X : Cx} {j : Nat}
theorem call_repr_shw (ga : X.A.guards = some []) (hr : Room j X.A) : CallR X (.builtin "repr") (fun xs H Q => ∃ v z, xs = [v] ∧ Shw X.K H v z ∧ Q (.str z) H) := by
  intro pins s σ H xs us Q I r h
  obtain ⟨v, z, rfl, hs, q⟩ := h
  obtain ⟨u, rfl, rv⟩ := vals1 r
  have hu := hr.units
  rcases hs with ⟨d, hd, h1, h2, h3, rfl⟩ | ⟨a, rfl, ha, rfl⟩
  · have fin : ∀ {x : Str} {t : Nat}, x = d.shown → EP X pins σ Q (.str x s.toks) { s with toks := t } := fun {x t} e => ⟨.str _, H, I.tok _, ⟨_, rfl⟩, by rw [e]; exact q⟩
    have ref : ∀ {a : Addr}, v = .ref a → wpAny (model X.prog X.w) X.A (call (.builtin "repr") [u]) (EP X pins σ Q) X.xe s := fun {a} e => by
      subst e
      obtain rfl : u = Value.ref a := rv
      obtain ⟨as, rd⟩ := Dp.reads I d (.ref a) _ hd rfl
      exact repr_of_reads' rd h1 (PyData.noDict_hsm (dp_flat d _ hd)) ga (by omega) (fun _ _ e => e) (fun h' u tk hk => ⟨.str _, H, I.kept hk, ⟨_, rfl⟩, q⟩) h2
    cases hd with
    | non =>
      cases rv
      exact PySem.P.repr_of_none (fin (by simp only [PyData.shown]))
    | bl b =>
      cases rv
      exact PySem.P.repr_of_bool (fin (by simp only [PyData.shown]))
    | int i =>
      obtain ⟨t, rfl⟩ := rv
      exact PySem.P.repr_of_int (by simpa only [PyData.showable, decide_eq_true_eq] using h1) (fin (by simp only [PyData.shown]))
    | str x =>
      obtain ⟨t, rfl⟩ := rv
      exact PySem.P.repr_of_str (fin (by simp only [PyData.shown])) (by simpa only [PyData.shown] using h2)
    | lst _ _ => exact ref rfl
    | tup _ _ => exact ref rfl
  · obtain rfl : u = Value.ref a := rv
    obtain ⟨_, hm, vs, kv, o, es, ep, ho, hx, hde, _, pr, _⟩ := I.hok a _ ha
    cases kv
    have e0 : es.toList = [] := by
      have z := pr
      generalize es.toList = l at z
      cases z
      rfl
    have hc : o.cls = .type "dict" := hx.1
    have rd : Reads s.heap (.ref a) (.dict []) [a] := by
      have z : Reads s.heap (.ref a) (.dict []) (a :: [] ++ []) := .dict ho hc hde (by rw [e0]; exact .nil) (by rw [e0]; exact .nil)
      exact z
    have nm : sysModules ∉ [a] := fun z => by
      rw [List.mem_singleton.mp z] at hm
      exact absurd hm (by simp)
    have dp : (PyData.dict []).depth = 1 := by simp [PyData.depth, PyData.depthKv]
    have tx : (PyData.dict []).shown = ("{}" : Str) := by simp [PyData.shown, PyData.shownKv]; rfl
    refine repr_of_reads' rd (by simp only [PyData.showable, PyData.showableKv]) (fun _ => nm) ga (by rw [dp]; omega) (fun _ _ e => e) (fun h' u tk hk => ⟨.str _, H, I.kept hk, ⟨_, rfl⟩, ?_⟩) ?_
    · rw [tx]
      exact q
    · rw [tx]
      decide
end
end Bk

namespace Bk
open PySem PySem.Spec PyProof.Rows L2
/-! ## 11. try: .. except A as e: .. except B as e: .. , what none of them takes does not come -/
abbrev ClA := Value × Nat × (Addr → Value → Option Addr → TS)
def offI (i : Nat) (D : Ends) : Ends := { nx := fun τ G => D.nx (τ.set i none) G, rt := D.rt, bk := fun τ G => D.bk (τ.set i none) G, ct := fun τ G => D.ct (τ.set i none) G }
def wAM (K : PySem.W.Frag) (D : Ends) : List ClA → WX
  | [] => fun _ _ _ _ => False
  | q :: l => fun cls d τ G => ∃ b, PySem.W.exmOne K cls q.1 = some b ∧ (b = true → ∀ a, G a = none → q.2.2 a cls d (offI q.2.1 D) (τ.set q.2.1 (some (.ref a))) G) ∧ (b = false → wAM K D l cls d τ G)
inductive HdA (X : Cx) : List ExceptHandler → List ClA → Prop
  | stop {hds : List ExceptHandler} : HdA X hds []
  | more {x n : Str} {c : Value} {i : Nat} {ts : Addr → Value → Option Addr → TS} {b : Stmt} {bs : List Stmt} {p1 p2 : Pos} {hds : List ExceptHandler} {l : List ClA} (nm : Names X x c) (hi : X.N[i]? = some n) (hn : X.env.kindOf n = some .local)
      (su : ∀ (a : Addr) (oe : Obj) (cls : Value) (d : Option Addr) (pn : List (Addr × Obj)), Zc cls d oe → (∃ vs, oe.data = .fields vs) → PSs (X.suite a ((a, oe) :: pn)) (b :: bs) (ts a cls d)) (r : HdA X hds l) :
      HdA X (.ExceptHandler (some (.Name x p1)) (some n) (b :: bs) p2 :: hds) ((c, i, ts) :: l)
section
variable {X : Cx} {body : List Stmt} {h₀ : ExceptHandler} {hds : List ExceptHandler} {l : List ClA} {pos : Pos} {tb : WX → TS}
theorem ps_try_asM (st : X.stack = X.env :: X.outer) (fr : X.env.frame = some X.env.locals) (nd : X.N.Nodup)
    (hb : ∀ (W : WX) (pn : List (Addr × Obj)) (xe : Value → Shared → Prop), Takes (X.tr pn xe) W → PassesOwn (model X.prog X.w) X.A X.env xe → PSs (X.tr pn xe) body (tb W))
    (hh : HdA X (h₀ :: hds) l) : PS X (.Try body (h₀ :: hds) [] [] pos) (fun D τ G => tb (wAM X.K D l) D τ G) := by
  refine ⟨fun pins s τ G D I hq => wpAny_Try_except ?_⟩
  have ok := I.ok
  refine wpAny_mono ((hb (wAM X.K D l) (X.pn ++ pins) _ (fun u s2 z => ?_) PassesOwn.looking).run [] s τ G D (I.toTry _) hq) (fun fl s2 z => ?_) (fun _ _ z => z)
  · -- what came out of the body
    obtain ⟨a, B, sI, pins2, τ2, G2, cls, d, rfl, J2, nb, up, sky, na, os, ag, w⟩ := z
    have J : Inv X pins τ2 G2 sI := J2.ofTry ok
    refine Sky.land Zc.steady (show X.A.frames = some (X.env :: X.outer) by rw [ok.frames, st]) fr (by rw [← st]; exact sky) fun h3 fl3 up3 => ?_
    obtain ⟨o3, v3, g3, z3, d3⟩ := fl3.there
    have J3 : Inv X pins τ2 G2 { s2 with heap := h3 } := J.landed nb fl3.1 (up.trans up3) os ag
    have out : a ∉ frs (X.env :: X.outer) := fun m => by
      obtain ⟨_, o4, g4, n4⟩ := fl3.2.2.1.mem m
      rw [g3] at g4
      cases g4
      exact n4 _ d3
    have aL : a ≠ X.env.locals := fun e => out (List.mem_filterMap.mpr ⟨X.env, List.mem_cons_self, by rw [fr, e]⟩)
    have aF : a ∉ X.fs := fun m => by
      obtain ⟨e, me, q⟩ := List.mem_filterMap.mp m
      exact out (List.mem_filterMap.mpr ⟨e, List.mem_cons_of_mem _ me, q⟩)
    have S3 := J3.suite g3 d3 na aL aF
    have all : ∀ {hs : List ExceptHandler} {k : List ClA}, HdA X hs k → wAM X.K D k cls d τ2 G2 → wpAny (model X.prog X.w) X.A (handleBy (.ref a) X.env hs) (SP X pins D) X.xe { s2 with heap := h3 } := by
      intro hs k hk
      induction hk with
      | stop => exact fun z => z.elim
      | @more x n c i ts b bs p1 p2 hs2 k2 nm hi hn su r ih =>
        rintro ⟨yes, e1, w1, w2⟩
        refine wpAny_handleBy_cons (codeAny_handlers_test ?_) (fun q => nomatch q)
        have T1 : PySem.W.Looks (model X.prog X.w) h3 (typeOf (.ref a)) cls := fun A Q E s k q => wpAny_typeOf_ref (k _ _ g3) (by rw [z3.1]; exact q)
        have T2 := PySem.W.exm_one (M := model X.prog X.w) J3.kIn T1 e1
        have ask : ∀ {Q : Value → Shared → Prop} {E : Value → Shared → Prop}, Q c { s2 with heap := h3 } → wpAny (model X.prog X.w) (X.A.mark (some (.ref a))) (eval (.Name x p1) X.env) Q E { s2 with heap := h3 } := fun {Q E} q => by
          obtain ⟨g1, g2, m1 | ⟨m1, m2, m3⟩⟩ := nm
          · exact ld_glob (X := X.suite a ((a, o3) :: (X.pn ++ pins))) S3 g1 m1 q g2
          · exact ld_blt (X := X.suite a ((a, o3) :: (X.pn ++ pins))) S3 g1 m1 m2 q m3 g2
        refine ask (T2.here ?_)
        match yes, w1, w2 with
        | false, w1, w2 => exact ih (w2 rfl)
        | true, w1, w2 =>
          refine codeAny_handlers_suite_as (HandSPX.lands_againZ fl3 fun h4 fl4 up4 => ?_)
          obtain ⟨o4, v4, g4, z4, d4⟩ := fl4.there
          have S4 := (J.landed nb fl4.1 ((up.trans up3).trans up4) os ag : Inv X pins τ2 G2 { s2 with heap := h4 }).suite g4 d4 na aL aF
          refine store_ok (X := X.suite a ((a, o4) :: (X.pn ++ pins))) (v := .ref a) S4 nd hi (.inl hn) rfl (fun s5 S5 => ?_) (.inr hn)
          refine wpAny_mono ((su a o4 cls d (X.pn ++ pins) z4 ⟨_, d4⟩).run [] s5 _ G2 _ S5 (w1 rfl a na)) (fun fl s6 z6 => ?_) fun _ _ z6 => z6.elim
          have back : ∀ {τ6 : L2.St} {G6 : Hp} {R : Shared → Prop}, Inv (X.suite a ((a, o4) :: (X.pn ++ pins))) [] τ6 G6 s6 → (∀ s7, Inv X pins (τ6.set i none) G6 s7 → R s7) →
              wpAny (model X.prog X.w) X.A (do bindName X.env n .none; unbindBehindTheSuite X.env n p2) (fun _ s7 => R s7) X.xe s6 := fun {τ6 G6 R} S6 f => gone_ok (S6.unsuite ok) nd hi hn f
          match fl, z6 with
          | .next, ⟨_, _, S6, q6⟩ => exact back S6 fun s7 J7 => ⟨_, _, J7, q6⟩
          | .brk, ⟨_, _, S6, q6⟩ => exact back S6 fun s7 J7 => ⟨_, _, J7, q6⟩
          | .cont, ⟨_, _, S6, q6⟩ => exact back S6 fun s7 J7 => ⟨_, _, J7, q6⟩
          | .ret u, ⟨_, _, _, S6, r6, q6⟩ => exact back S6 fun s7 J7 => ⟨_, _, _, J7, r6, q6⟩
    exact all hh w
  · match fl, z with
    | .next, ⟨_, _, J, q⟩ => exact wpAny_execs_nil ⟨_, _, J.ofTry ok, q⟩
    | .brk, ⟨_, _, J, q⟩ => exact ⟨_, _, J.ofTry ok, q⟩
    | .cont, ⟨_, _, J, q⟩ => exact ⟨_, _, J.ofTry ok, q⟩
    | .ret u, ⟨_, _, _, J, r, q⟩ => exact ⟨_, _, _, J.ofTry ok, r, q⟩
end
end Bk

namespace Bk
open PySem PySem.Spec PyProof.Rows L2
/-! ## 12. enumerate of a tuple -/
theorem meets_enum1 {v : Value} {o : Obj} {S : Heap → Prop} (B : Begins v o S) :
    Meets (Builtin.«enumerate.__new__» ⟨[.type "enumerate", v], []⟩) (fun _ R s => S s.heap ∧
      R (.ok (.ret (.ref (s.heap.push o).objs.size))) { s with heap := (s.heap.push o).push { cls := .type "enumerate", data := .fields #[.none, .bool false, .ref s.heap.objs.size, rawInt 0, .none, .none] } }) :=
  .of_wp fun prog w A R s z => by
    obtain ⟨hp, g, d, tk, os⟩ := s
    obtain ⟨z1, z2⟩ := z
    have sub := sub_enumerate
    have it : ∀ {A' : Around} {E : Value → Shared → Prop} {Q : Value → Shared → Prop}, Q (.ref hp.objs.size) ⟨hp.push o, g, d, tk, os⟩ → wpAny (model prog w) A' (pyIter v) Q E ⟨hp, g, d, tk, os⟩ := fun q => B.iter prog w _ _ _ _ z1 q
    wp_walk using it
    refine wpAny_stack_any fun st => wpAny_pure ?_
    split
    · rename_i c _ _ _ _ _
      cases (c == Value.type "enumerate") <;> (wp_walk using it; exact ⟨_, rfl, z2⟩)
    · wp_walk using it
      exact ⟨_, rfl, z2⟩
theorem enum1 {prog : Program} {w : World} {A : Around} {E : Value → Shared → Prop} {s : Shared} {v : Value} {o : Obj} {S : Heap → Prop} {Q : Value → Shared → Prop} (B : Begins v o S) (z : S s.heap)
    (q : ∀ h', IsEnum h' (s.heap.objs.size + 1) s.heap.objs.size 0 .none → h'.get? s.heap.objs.size = some o → h'.objs.size = s.heap.objs.size + 2 → (∀ b u, s.heap.get? b = some u → h'.get? b = some u) → Q (.ref (s.heap.objs.size + 1)) { s with heap := h' }) :
    wpAny (model prog w) A (call (.type "enumerate") [v]) Q E s := by
  refine callType_new F.called_enumerate (by decide) (F.typeCall_enumerate_1 _) (F.newCall_enumerate_1 _) (fun u => F.args_object_init_2 u _) F.entry_enumerate_new (meets_enum1 B) ⟨z, ?_⟩
  have sz : (s.heap.push o).objs.size = s.heap.objs.size + 1 := Heap.size_push ..
  have top := Heap.get?_push_size (s.heap.push o) (o := { cls := .type "enumerate", data := .fields #[.none, .bool false, .ref s.heap.objs.size, rawInt 0, .none, .none] }) rfl
  show _ ∧ _
  rw [sz] at top ⊢
  exact ⟨⟨_, top, rfl⟩, q _ top (Heap.get?_push_of_some _ (Heap.get?_push_size _ B.free)) (by rw [Heap.size_push, sz]) fun b u e => Heap.get?_push_of_some _ (Heap.get?_push_of_some _ e)⟩
/-- the tuple's items in new pairs -/
def Itu (K : PySem.W.Frag) (a : Addr) : It :=
  ⟨fun i H => ∃ (xs : List V) (x : V), SqT K H a xs ∧ xs[i]? = some x, fun i H v H' => ∃ T x, v = .ref T ∧ H T = none ∧ H' = upd H T (.tup [.int (i : Nat), x]) ∧ ∀ xs, SqT K H a xs → xs[i]? = some x, fun i H => ∃ xs : List V, SqT K H a xs ∧ xs.length ≤ i⟩
theorem turn_enumT {P : Program} {w : World} {K : PySem.W.Frag} {elts : List Expr} {kk : Nat} {tpos : Pos} (a e it : Addr) (ai : a ≠ it) (ae : a ≠ e) :
    Turn P w K (.Tuple elts kk tpos) (Itu K a) [e, it] e (fun i h => (∃ old, IsEnum h e it ((i : Nat) : Int) old) ∧ h.IsTupleIter it a i ∧ e ≠ it) where
  mem := List.mem_cons_self
  obj := fun i h st b hb => by
    obtain ⟨⟨old, he⟩, ⟨o, ho, _, hd⟩, _⟩ := st
    rcases List.mem_cons.mp hb with z | z
    · subst z
      exact ⟨_, he, fun v q => nomatch q⟩
    · exact ⟨o, by rw [List.mem_singleton.mp z]; exact ho, fun v q => by rw [hd] at q; exact nomatch q⟩
  keep := fun i h h' st k => ⟨st.1.elim fun old z => ⟨old, k e List.mem_cons_self _ z⟩, st.2.1.at fun o q => k it (List.mem_cons_of_mem _ List.mem_cons_self) o q, st.2.2⟩
  item := by
    intro X hP hw hK hc i pins s σ H E I hf st hg
    subst hP hw hK
    obtain ⟨⟨old, he⟩, hit, ne⟩ := st
    obtain ⟨xs, x, hq, hx⟩ := hg
    obtain ⟨its, rv, p, _⟩ := I.tuple hq
    obtain ⟨u, hu, ru⟩ := rv.get hx
    have e1 := Heap.lt_size he
    have i1 : it < s.heap.objs.size := let ⟨_, q, _⟩ := hit; Heap.lt_size q
    have li : i < its.toArray.size := by
      rw [List.size_toArray]
      exact (List.getElem?_eq_some_iff.mp hu).1
    refine wpAny_pyNext_enum_itemD (Draws.tuple (show X.A.in1.handled = none from I.ok.hd hc) it a ai its.toArray) he ⟨hit, p⟩ li ne (fun z => ?_) fun v h' tk hv ho hs hT _ hk => ?_
    · rcases List.mem_cons.mp z with z | z
      · exact ne z
      · exact ae (List.mem_singleton.mp z).symm
    obtain rfl : v = u := by
      have hv' : its.toArray[i]? = some v := hv
      rw [List.getElem?_toArray, hu] at hv'
      exact (Option.some.inj hv').symm
    refine ⟨_, rfl, wpAny_letOwnedTupleGo_enum (s := { s with heap := h', toks := tk + 1 }) ho fun h2 he2 sb => ?_⟩
    have T2 : h2.get? s.heap.objs.size = some { cls := .type "tuple", data := .seq #[.int i tk, v] } := (sb.2 _ (Nat.ne_of_gt e1)).trans hT
    have fresh := I.hok.fresh (Nat.le_refl s.heap.objs.size)
    have J : Inv X pins σ (upd H s.heap.objs.size (.tup [.int (i : Nat), x])) { s with heap := h2, toks := tk + 1 } :=
      I.turnedNew (ch := [e, it]) (fun b ob hb q => (sb.2 b (fun z => hb (by simp [z]))).trans (hk b ob (fun z => hb (by simp [z])) (fun z => hb (by simp [z])) q)) hf (Nat.le_refl _)
        (show ObjOk X.prog X.w _ h2 _ (.tup [.int (i : Nat), x]) from ⟨Nat.le_of_ble_eq_true rfl, [.int i tk, v], .cons ⟨_, rfl⟩ (.cons ru .nil), ⟨_, T2, rfl, _, rfl⟩⟩)
    refine ⟨.ref s.heap.objs.size, _, J, rfl, ⟨_, x, rfl, fresh, rfl, fun ys hy => by rw [I.tuple_inj hy hq]; exact hx⟩, ⟨⟨v, ?_⟩, hs.1.at fun o q => (sb.2 it (Ne.symm ne)).trans q, ne⟩, fun b hb => ?_⟩
    · rw [show ((i + 1 : Nat) : Int) = (i : Int) + 1 by omega]
      exact he2
    · have lb : b < s.heap.objs.size := by
        rcases List.mem_cons.mp hb with z | z
        · rw [z]; exact e1
        · rw [List.mem_singleton.mp z]; exact i1
      rw [upd_ne (Nat.ne_of_lt lb)]
      exact (hf b hb).1
  done := by
    intro X hP hw hK hc i pins s σ H E I hf st hg
    subst hP hw hK
    obtain ⟨⟨old, he⟩, hit, ne⟩ := st
    obtain ⟨xs, hq, hx⟩ := hg
    obtain ⟨its, rv, p, _⟩ := I.tuple hq
    obtain ⟨f0, f1, f2, f3, f4, f5⟩ := hf it (List.mem_cons_of_mem _ List.mem_cons_self)
    have ln := rv.length
    have hn : its.toArray[i]? = none := by
      rw [List.getElem?_toArray]
      exact List.getElem?_eq_none (by omega)
    have hT : s.TypeIs (.ref e) "enumerate" := ⟨_, he, rfl⟩
    unfold pyNext
    refine wpAny_bind (wpAny_attempt (wpAny_callSpecial?_slot (name := Str.ofString "__next__") hT F.slot_enumerate_next
      (wpAny_call_entry F.slot_enumerate_next hT F.entry_enumerate_next ?_ (F.args_enumerate_next_1 _))))
    show wpAny (model X.prog X.w) _ (field (.ref e) 2 >>= _) _ _ _
    refine wpAny_bind (wpAny_field he rfl (x := .ref it) rfl ?_)
    refine wpAny_bind (wpAny_nextOf_tuple_end (I.ok.hd hc) hit p hn fun h' x he' hx' => ?_)
    obtain ⟨o, ho, hcl⟩ := hx'
    exact wpAny_bind (wpAny_isInstance (T := "StopIteration") (b := true) ⟨o, ho, hcl⟩ isSubtype_stop (wpAny_pure ⟨rfl, I.turned (t' := s.toks) (fun b o hb q => he' b o hb q) f0 f1 f3 f4 f5⟩))
  self := fun A i s Q E st h => let ⟨⟨_, he⟩, _⟩ := st; wpAny_pyIter_enum he h
def iEnumA (K : PySem.W.Frag) (ta : TA) : TI := fun σ H R => ta σ H fun vs H1 => ∃ a xs, vs = [.ref a] ∧ ((SqL K H1 a xs ∧ R (Ite K a) H1) ∨ (SqT K H1 a xs ∧ R (Itu K a) H1))
def iSeqA (K : PySem.W.Frag) (te : TE) : TI := fun σ H R => te σ H fun x H1 => ∃ a xs, x = .ref a ∧ ((SqL K H1 a xs ∧ R (Itl K a) H1) ∨ (SqT K H1 a xs ∧ R (Itt K a) H1))
section
variable {X : Cx} {e tg : Expr} {ta : TA} {te : TE} {p pos tpos : Pos} {elts : List Expr} {kk : Nat}
theorem pi_enumA (hg : Gl X "enumerate") (hm : X.mg "enumerate" = none) (ha : PA X [e] ta) (hs : starEach [e] X.env = [(false, eval e X.env)] := by rfl) : PI X (.Tuple elts kk tpos) (.Call (.Name "enumerate" p) [e] [] pos) (iEnumA X.K ta) := by
  refine ⟨fun pins s σ H R I h => Call_ (ld_blt I hg hm boot_enumerate (PyProof.Rows.callWith_type1 (thn (ha.run pos pins s σ H _ I h) fun us s1 ⟨vs, H1, I1, r1, q1⟩ => ?_) hs rfl))⟩
  obtain ⟨a, xs, rfl, q⟩ := q1
  obtain ⟨u, rfl, rv⟩ := vals1 r1
  obtain rfl : u = Value.ref a := rv
  have near : ∀ {b : Addr}, b ∈ [s1.heap.objs.size + 1, s1.heap.objs.size] → FpOk X pins H1 b := fun {b} hb => by
    have le : s1.heap.objs.size ≤ b := by
      rcases List.mem_cons.mp hb with z | z
      · rw [z]; exact Nat.le_succ _
      · rw [List.mem_singleton.mp z]; exact Nat.le_refl _
    exact I1.fpOk le (I1.hok.fresh le)
  rcases q with ⟨hq, q⟩ | ⟨hq, q⟩
  · obtain ⟨its, rv, p', hz⟩ := I1.list hq
    refine call_enumerate_list p'.isList fun h' he hit _ hk => wpAny_pyIter_enum he ?_
    exact ⟨s1.heap.objs.size + 1, [s1.heap.objs.size + 1, s1.heap.objs.size], _, _, H1, rfl, I1.kept (t' := s1.toks) hk, turn_enum a (s1.heap.objs.size + 1) s1.heap.objs.size, ⟨⟨.none, he⟩, hit, Nat.succ_ne_self _⟩, fun b hb => near hb, q⟩
  · obtain ⟨its, rv, p', hz⟩ := I1.tuple hq
    have la : a < s1.heap.objs.size := let ⟨_, z, _⟩ := p'; Heap.lt_size z
    refine enum1 (begins_tuple a its.toArray) p' fun h' he hit _ hk => wpAny_pyIter_enum he ?_
    exact ⟨s1.heap.objs.size + 1, [s1.heap.objs.size + 1, s1.heap.objs.size], _, _, H1, rfl, I1.kept (t' := s1.toks) hk, turn_enumT a (s1.heap.objs.size + 1) s1.heap.objs.size (Nat.ne_of_lt la) (Nat.ne_of_lt (Nat.lt_succ_of_lt la)), ⟨⟨.none, he⟩, ⟨_, hit, rfl, rfl⟩, Nat.succ_ne_self _⟩, fun b hb => near hb, q⟩
theorem pi_seqA (he : PE X e te) : PI X tg e (iSeqA X.K te) := by
  refine ⟨fun pins s σ H R I h => thn (he.run pins s σ H _ I h) fun v s1 ⟨x, H1, I1, r1, q1⟩ => ?_⟩
  obtain ⟨a, xs, rfl, q⟩ := q1
  obtain rfl : v = Value.ref a := r1
  have near : ∀ {b : Addr}, b ∈ [s1.heap.objs.size] → FpOk X pins H1 b := fun {b} hb => by
    rw [List.mem_singleton.mp hb]
    exact I1.fpOk (Nat.le_refl _) (I1.hok.fresh (Nat.le_refl _))
  have J : ∀ {o : Obj}, Inv X pins σ H1 { s1 with heap := s1.heap.push o } := fun {o} => I1.kept (t' := s1.toks) fun b u z => Heap.get?_push_of_some _ z
  rcases q with ⟨hq, q⟩ | ⟨hq, q⟩
  · obtain ⟨its, rv, p', hz⟩ := I1.list hq
    exact wpAny_pyIter_list p'.isList ⟨s1.heap.objs.size, [s1.heap.objs.size], _, _, H1, rfl, J, turn_list a _, ⟨_, Heap.get?_push_size _ rfl, rfl, rfl⟩, fun b hb => near hb, q⟩
  · obtain ⟨its, rv, p', hz⟩ := I1.tuple hq
    exact wpAny_pyIter_tuple (show s1.heap.IsTuple a its.toArray from p') ⟨s1.heap.objs.size, [s1.heap.objs.size], _, _, H1, rfl, J, turn_tuple a _, ⟨_, Heap.get?_push_size _ rfl, rfl, rfl⟩, fun b hb => near hb, q⟩
end
section
variable {K : PySem.W.Frag} {a : Addr} {xs : List V}
theorem walk_enumT : Walk (Itu K a) xs.length (fun H => SqT K H a xs) (YPair (fun i => some (.int (i : Nat))) (fun i => xs[i]?)) :=
  ⟨fun i _ hi q => ⟨xs, xs[i], q, List.getElem?_eq_getElem hi⟩, fun _ q => ⟨xs, q, Nat.le_refl _⟩, fun i H v H' _ q ⟨T, x, h1, h2, h3, h4⟩ => ⟨T, .int (i : Nat), x, h1, h2, h3, rfl, h4 xs q⟩⟩
end
end Bk

namespace Bk
open PySem PySem.Spec PyProof.Rows L2
/-! ## 13. defs that refuse -/
/-- what a refusal is: a new own exception of the class at C, v its only field -/
def Refuse (C : Addr) (v : V) (H : Hp) (E : XK) : Prop := ∀ d H', H d = none → Same H H' → H' d = some (.xd [("found", v)]) → E (.ref C) (some d) H'
theorem Refuse.same {C : Addr} {v : V} {H H' : Hp} {E : XK} (r : Refuse C v H E) (s : Same H H') (n : ∀ d, H' d = none → H d = none) : Refuse C v H' E := fun d H2 hd s2 e => r d H2 (n d hd) (s.trans s2) e
def noE : XK := fun _ _ _ => False
structure CalX (P : Program) (w : World) (K : PySem.W.Frag) (mg : Str → Option Value) (base : Heap) (k : Nat) (x : Str) (sp : Sp) : Prop where
  ex : ∃ (f : Addr) (fd : FuncData) (ps : List Str), mg x = some (.ref f) ∧ PySem.W.keepIn K (.ref f) = true ∧ FnOk P w K mg base (L2.CX P w) k f fd ps sp ∧ Binds K fd ps []
theorem CalX.mk' {P : Program} {w : World} {K : PySem.W.Frag} {mg : Str → Option Value} {base : Heap} {k : Nat} {x : Str} {sp : Sp} {f : Addr} {fd : FuncData} {ps : List Str} (g : mg x = some (.ref f)) (kp : PySem.W.keepIn K (.ref f) = true) (F : FnOk P w K mg base (L2.CX P w) k f fd ps sp) (b : Binds K fd ps []) :
    CalX P w K mg base k x sp := ⟨f, fd, ps, g, kp, F, b⟩
/-- with keywords alone -/
structure CalNX (P : Program) (w : World) (K : PySem.W.Frag) (mg : Str → Option Value) (base : Heap) (k : Nat) (ks : List Str) (x : Str) (sp : Sp) (gV : List V → List V → List V) : Prop where
  ex : ∃ (f : Addr) (fd : FuncData) (ps : List Str) (g : List Value → List Value → List Value), mg x = some (.ref f) ∧ PySem.W.keepIn K (.ref f) = true ∧ FnOk P w K mg base (L2.CX P w) k f fd ps sp ∧ KBn K fd ps 0 ks g gV
theorem CalNX.mk' {P : Program} {w : World} {K : PySem.W.Frag} {mg : Str → Option Value} {base : Heap} {k : Nat} {ks : List Str} {x : Str} {sp : Sp} {gV : List V → List V → List V} {f : Addr} {fd : FuncData} {ps : List Str} {g : List Value → List Value → List Value} (a : mg x = some (.ref f)) (kp : PySem.W.keepIn K (.ref f) = true)
    (F : FnOk P w K mg base (L2.CX P w) k f fd ps sp) (b : KBn K fd ps 0 ks g gV) : CalNX P w K mg base k ks x sp gV := ⟨f, fd, ps, g, a, kp, F, b⟩
section
variable {X : Cx} {k j : Nat} {ks : List Str} {sp : Sp} {x : Str} {p pos : Pos} {e : Expr} {es : List Expr} {kws : List Keyword} {t tk : TA} {W : WX} {gV : List V → List V → List V}
/-- in a def that may let it out itself -/
theorem pe_calX {E : XK} (c : CalX X.prog X.w X.K X.mg X.base k x sp) (hr : Room j X.A) (hk : k ≤ j) (hg : Gl X x) (tk : Takes X (fun cls d _ H => E cls d H)) (ha : PA X (e :: es) t)
    (hdb : (x == ("__debug__" : Str)) = false := by decide) (he : starEach (e :: es) X.env = (false, eval e X.env) :: starEach es X.env := by rfl) (hpl : (backTo pos (starEach es X.env)).any (·.1) = false := by rfl) :
    PE X (.Call (.Name x p) (e :: es) [] pos) (tCall sp [] E t) := by
  obtain ⟨f, fd, ps, h1, h2, h3, h4⟩ := c.ex
  exact pe_call h3 (hr.mono hk) hg h1 h2 h4 .nil (passes_call tk fun _ _ _ _ h => h) ha hdb he hpl
theorem pass_no : Passes (L2.CX X.prog X.w) X noE := fun _ _ _ _ _ _ _ z => by
  obtain ⟨_, _, _, _, _, _, _, _, _, _, _, _, q⟩ := z
  exact q.elim
/-- where it is not refused -/
theorem pe_calY (c : CalX X.prog X.w X.K X.mg X.base k x sp) (hr : Room j X.A) (hk : k ≤ j) (hg : Gl X x) (ha : PA X (e :: es) t)
    (hdb : (x == ("__debug__" : Str)) = false := by decide) (he : starEach (e :: es) X.env = (false, eval e X.env) :: starEach es X.env := by rfl) (hpl : (backTo pos (starEach es X.env)).any (·.1) = false := by rfl) :
    PE X (.Call (.Name x p) (e :: es) [] pos) (tCall sp [] noE t) := by
  obtain ⟨f, fd, ps, h1, h2, h3, h4⟩ := c.ex
  exact pe_call h3 (hr.mono hk) hg h1 h2 h4 .nil pass_no ha hdb he hpl
theorem pe_calNY (c : CalNX X.prog X.w X.K X.mg X.base k ks x sp gV) (hr : Room j X.A) (hk : k ≤ j) (hg : Gl X x) (hkw : PK X kws tk)
    (hall : (backToKw pos (keywordEach kws X.env)).all (·.1.isSome) = true := by rfl) (hks : (backToKw pos (keywordEach kws X.env)).filterMap (·.1) = ks := by rfl)
    (hdb : (x == ("__debug__" : Str)) = false := by decide)
    (hpl : ((backTo pos (starEach [] X.env)).any (·.1) || (backToKw pos (keywordEach kws X.env)).any (·.1.isNone)) = false := by rfl) :
    PE X (.Call (.Name x p) [] kws pos) (tCallN 0 ks.length sp gV noE tNil tk) := by
  obtain ⟨f, fd, ps, g, h1, h2, h3, h4⟩ := c.ex
  exact pe_callN0 h3 (hr.mono hk) hg h1 h2 h4 pass_no hkw hall hks hdb hpl
/-- in a try -/
theorem pe_calT (c : CalX X.prog X.w X.K X.mg X.base k x sp) (hr : Room j X.A) (hk : k ≤ j) (hg : Gl X x) (tk : Takes X W) (ha : PA X (e :: es) t)
    (hdb : (x == ("__debug__" : Str)) = false := by decide) (he : starEach (e :: es) X.env = (false, eval e X.env) :: starEach es X.env := by rfl) (hpl : (backTo pos (starEach es X.env)).any (·.1) = false := by rfl) :
    PE X (.Call (.Name x p) (e :: es) [] pos) (tCallS sp (WE W) t) := by
  obtain ⟨f, fd, ps, h1, h2, h3, h4⟩ := c.ex
  exact pe_callS h3 (hr.mono hk) hg h1 h2 h4 (passAt tk) ha hdb he hpl
end
section
variable {K : PySem.W.Frag} {σ : L2.St} {H : Hp} {Q : VK} {D : Ends} {l : List ClA} {q : ClA} {cls : Value} {d : Option Addr}
theorem r_callS {sp : Sp} {E : L2.St → XK} {t : TA} (z : t σ H fun vs H1 => sp vs H1 Q (E σ)) : tCallS sp E t σ H Q := z
theorem r_try {tb : WX → TS} (z : tb (wAM K D l) D σ H) : (fun D τ G => tb (wAM K D l) D τ G) D σ H := z
theorem w_hit (h : PySem.W.exmOne K cls q.1 = some true) (z : ∀ a, H a = none → q.2.2 a cls d (offI q.2.1 D) (σ.set q.2.1 (some (.ref a))) H) : wAM K D (q :: l) cls d σ H := ⟨true, h, fun _ => z, fun y => absurd y.symm Bool.false_ne_true⟩
theorem w_miss (h : PySem.W.exmOne K cls q.1 = some false) (z : wAM K D l cls d σ H) : wAM K D (q :: l) cls d σ H := ⟨false, h, fun y => absurd y Bool.false_ne_true, fun _ => z⟩
theorem r_raise {t : L2.St → Hp → XK → Prop} {W : WX} (z : t σ H fun cls d H' => W cls d σ H') : (fun (_ : Ends) (τ : L2.St) (G : Hp) => t τ G fun cls d G' => W cls d τ G') D σ H := z
/-- raise C(v), C's own __init__ being this -/
def spInit (C : Addr) : Sp := fun vs H Q _ => ∃ (a : Addr) (x : V), vs = [.ref a, x] ∧ H a = some (exo a C none) ∧ ∀ dx, H dx = none → dx ≠ a → Q .non (upd (upd H dx (exd dx [("found", x)])) a (exo a C (some dx)))
theorem r_mkO {C : Addr} {v : V} {E : XK} (z : Refuse C v H E) : [v].length ≤ 1000 ∧ ∀ a, H a = none → spInit C (.ref a :: ([v] ++ [])) (upd H a (exo a C none))
    (fun u H2 => u = .non ∧ ∃ (d : Addr) (fs : List (Str × V)), H2 a = some (exo a C (some d)) ∧ H2 d = some (exd d fs) ∧ H d = none ∧ E (.ref C) (some d) (upd (del H2 a) d (.xd fs))) (fun _ _ _ => False) := by
  refine ⟨Nat.le_of_ble_eq_true rfl, fun a ha => ⟨a, v, rfl, upd_same, fun dx hd ne => ⟨rfl, dx, [("found", v)], upd_same, ?_, ?_, ?_⟩⟩⟩
  · rw [upd_ne ne, upd_same]
  · rw [upd_ne ne] at hd
    exact hd
  · rw [upd_ne ne] at hd
    refine z dx _ hd (fun b o e => ?_) upd_same
    have h1 : b ≠ a := ne_of_none e ha
    have h2 : b ≠ dx := ne_of_none e hd
    rw [upd_ne h2]
    show del _ a b = some o
    unfold del
    rw [if_neg h1, upd_ne h1, upd_ne h2, upd_ne h1]
    exact e
end
/-! ## 14. isinstance of several classes -/
def rIs2 (K : PySem.W.Frag) : List V → Hp → VK → Prop := fun xs H Q => rIsi K xs H Q ∨ rIsiT K xs H Q
theorem call_is2 {X : Cx} : CallR X (.builtin "isinstance") (rIs2 X.K) := CallR.or call_isi call_isiT
def IsB (K : PySem.W.Frag) (H : Hp) (x : V) (T U : String) (b : Bool) : Prop := ∃ t, TyX K H x t ∧ PySem.W.kitAny K t [.type T, .type U] = some b
theorem kit2 {K : PySem.W.Frag} {t : Value} {T U : String} {a b : Bool} (h : PySem.W.kitOne K t (.type T) = some a) (h2 : PySem.W.kitOne K t (.type U) = some b) : PySem.W.kitAny K t [.type T, .type U] = some (a || b) := by
  cases a with
  | true => exact kitAny_cons h (fun z => nomatch z) (fun _ => rfl)
  | false => exact kitAny_cons h (fun _ => by cases b with
      | true => exact kitAny_cons h2 (fun z => nomatch z) (fun _ => rfl)
      | false => exact kitAny_cons h2 (fun _ => kitAny_nil) (fun z => nomatch z)) (fun z => nomatch z)
section
variable {K : PySem.W.Frag} {H H' : Hp} {x : V} {T U : String} {b c : Bool} {Q : VK} {tp : Addr}
theorem r_is2 (h : IsB K H x T U b) (e : H tp = some (.tup [.ty T, .ty U])) (q : Q (.bl b) H) : rIs2 K [x, .ref tp] H Q := by
  obtain ⟨t, h1, h2⟩ := h
  exact .inr ⟨x, tp, [.ty T, .ty U], t, [.type T, .type U], b, rfl, e, .cons (.ty T) (.cons (.ty U) .nil), h1, h2, q⟩
theorem r_is1 (h : ∃ t, TyX K H x t ∧ PySem.W.kitOne K t (.type T) = some b) (q : Q (.bl b) H) : rIs2 K [x, .ty T] H Q := by
  obtain ⟨t, h1, h2⟩ := h
  exact .inl ⟨x, .ty T, t, .type T, b, rfl, .ty T, h1, h2, q⟩
end
/-! ## 15. a comprehension, by what each turn gives -/
section
variable {J : It} {n : Nat} {G : Hp → Prop} {Y : Nat → Hp → V → Hp → Prop} {g : TG} {tt : TT} {te : TE} {vs : List Nat} {σ : L2.St} {H : Hp} {D : Addr} {Q : VK}
theorem lc_by (w : Walk J n G Y) (p : Nat → Option V) (hD : H D = none) (hn : n ≤ 10000) (hG : ∀ H', Same H H' → G H')
    (hs : ∀ i x H1 H2 (Q' : VK) (R' : Hp → Prop), i < n → Same H H1 → Y i H1 x H2 → (∀ v, p i = some v → ∀ H3, Same H1 H3 → Q' v H3) → (p i = none → ∀ H3, Same H1 H3 → R' H3) →
      g x (wipe σ vs) H2 fun τ H3 => wipe τ vs = wipe σ vs ∧ tt τ H3 fun b H4 => if b = true then te τ H4 Q' else R' H4)
    (q : ∀ H', Same H H' → H' D = some (.lst ((List.range n).filterMap p)) → Q (.ref D) H') :
    ∃ W : Nat → Nat → Hp → Prop, (∃ m, W 0 m (upd H D (.lst []))) ∧ ∀ i m H, W i m H →
      (J.stop i H ∧ Q (.ref D) H) ∨ (J.go i H ∧ ∃ Nx : Hp → Prop, (∀ H', Nx H' → ∃ m', m' < m ∧ W (i + 1) m' H') ∧ ∀ x H', J.yld i H x H' → g x (wipe σ vs) H' fun σ2 H2 => wipe σ2 vs = wipe σ vs ∧ tt σ2 H2 fun b H3 =>
        if b = true then te σ2 H3 fun y H4 => ∃ acc, H4 D = some (.lst acc) ∧ acc.length < sizeLine ∧ Nx (upd H4 D (.lst (acc ++ [y]))) else Nx H3) := by
  refine lc_it w (fun i G => Same H G ∧ G D = some (.lst ((List.range i).filterMap p))) ⟨same_upd hD, by rw [upd_same]; rfl⟩ (fun i G _ z => hG G z.1) (fun i x H1 H2 hi ⟨sm, e⟩ y => ?_) fun G z => q G z.1 z.2
  refine hs i x H1 H2 _ _ hi sm y (fun v hv H3 s3 => ⟨_, s3 _ _ e, ?_, sameBut (sm.trans s3) hD, ?_⟩) fun hv H3 s3 => ⟨sm.trans s3, ?_⟩
  · have l := List.length_filterMap_le p (List.range i)
    rw [List.length_range] at l
    exact Nat.lt_of_le_of_lt (Nat.le_trans l (Nat.le_trans (Nat.le_of_lt hi) hn)) (by decide)
  · rw [upd_same, List.range_succ, List.filterMap_append]
    simp only [List.filterMap_cons, List.filterMap_nil, hv]
  · rw [s3 _ _ e, List.range_succ, List.filterMap_append]
    simp only [List.filterMap_cons, List.filterMap_nil, hv, List.append_nil]
end
end Bk

namespace Bk
open PySem PySem.Spec PyProof.Rows L2
/-! ## 8. binding with keywords -/
theorem vals_rev : ∀ {zs : List V} {ws : List Value}, Vals zs ws → Vals zs.reverse ws.reverse
  | _, _, .nil => .nil
  | _, _, .cons r t => by
    rw [List.reverse_cons, List.reverse_cons]
    exact (vals_rev t).append (.cons r .nil)
section
variable {K : PySem.W.Frag} {x qual : Str} {params : Arguments} {body : List Stmt} {scope : Scope} {kws : List (Str × V)} {f : Addr} {fd : FuncData} {ps : List Str}
theorem kbinds0 (F : FunD K x qual params body scope [] kws f fd) (n : Nat) (ks : List Str) (ms : List (Str × V)) (g : {α : Type} → List α → List α → List α → List α) (hk : kws ≠ []) (hms : ∀ q ∈ ms, q ∈ kws)
    (hrel : ∀ {vs mz zs : List V} {us mv ws : List Value}, Vals vs us → Vals mz mv → Vals zs ws → Vals (g vs mz zs) (g us mv ws))
    (h : ∀ (D : Addr) (doc pm : Value) (an : Option Addr) (cdv ct : Value) (us mv ws : List Value), us.length = n → mv.length = ms.length → ws.length = ks.length →
      KwChain D ((ms.map (·.1)).zip mv) (bindArgs (PySem.W.fnOf x qual params body scope .none (.ref D) doc pm an cdv ct) ⟨us, ks.zip ws⟩) (ps.zip (g us mv ws))) :
    ∃ mv : List Value, KBn K fd ps n ks (fun us ws => g us mv ws) (fun vs zs => g vs (ms.map (·.2)) zs) := by
  obtain ⟨oc, od, dV, kV, doc, pm, an, cdv, ct, osl, rfl, lk, hcd, hD, hK⟩ := F.ex
  rcases hD with ⟨_, rfl⟩ | ⟨e, _⟩
  · rcases hK with e | ⟨D, rfl, hq⟩
    · exact absurd e hk
    · obtain ⟨mv, hl, rk, hks⟩ := kwd_vals (ms := ms) fun q hm => hq q (hms q hm)
      refine ⟨mv, ⟨fun s us ws X l1 l2 => ?_, fun r1 r2 => hrel r1 rk r2⟩⟩
      exact BindsTo.of_looks fun M => KwChain.looks X hks (h D doc pm an cdv ct us mv ws l1 hl l2)
  · exact absurd rfl e
/-- keywords alone or beside values, no defaults -/
theorem kbPlain {st : Stmt} {f : Addr} {fd : FuncData} (F : Fun K x qual st f fd) (n : Nat) (ks : List Str) (g : {α : Type} → List α → List α → List α)
    (hrel : ∀ {vs zs : List V} {us ws : List Value}, Vals vs us → Vals zs ws → Vals (g vs zs) (g us ws))
    (h : ∀ (kV doc pm : Value) (an : Option Addr) (cdv ct : Value) (us ws : List Value), us.length = n → ws.length = ks.length → bindArgs (PySem.W.fnOf x qual (defArgs st) (defBody st) (defScope st) .none kV doc pm an cdv ct) ⟨us, ks.zip ws⟩ = pure (ps.zip (g us ws))) :
    KBn K fd ps n ks (fun us ws => g us ws) (fun vs zs => g vs zs) := by
  obtain ⟨oc, od, kV, doc, pm, an, cdv, ct, osl, rfl, lk, hcd⟩ := F.ex
  exact ⟨fun s us ws X l1 l2 => .of_eq (h kV doc pm an cdv ct us ws l1 l2), fun r1 r2 => hrel r1 r2⟩
end
theorem kit_sub {K : PySem.W.Frag} {C : Addr} {T : String} {b : Bool} (hm : PySem.W.kitMeta T = true) (h : PySem.W.subIn K (.ref C) (.type T) = some b) : PySem.W.kitOne K (.ref C) (.type T) = some b := by
  unfold PySem.W.kitOne PySem.W.kitCls
  rw [if_neg (fun z => by cases (beq_iff_eq.mp z))]
  show (if PySem.W.kitMeta T = true then PySem.W.subIn K (.ref C) (.type T) else none) = some b
  rw [if_pos hm]
  exact h
theorem CalN.mk' {P : Program} {w : World} {K : PySem.W.Frag} {mg : Str → Option Value} {base : Heap} {CX : CXT} {k n : Nat} {ks : List Str} {x : Str} {sp : Sp} {gV : List V → List V → List V} {f : Addr} {fd : FuncData} {ps : List Str} {g : List Value → List Value → List Value} (a : mg x = some (.ref f)) (kp : PySem.W.keepIn K (.ref f) = true) (F : FnOk P w K mg base CX k f fd ps sp) (b : KBn K fd ps n ks g gV) :
    CalN P w K mg base CX k n ks x sp gV := ⟨f, fd, ps, g, a, kp, F, b⟩
/-! ### within a comprehension: K by name -/
theorem call_isK {X : Cx} {K : PySem.W.Frag} (h : X.K = K) : CallR X (.builtin "isinstance") (rIs K) := by
  subst h
  exact call_is
theorem pg_tupK {X : Cx} {K : PySem.W.Frag} {es : List Expr} {k : Nat} {t : TGs} {n : Nat} {pos : Pos} (e : X.K = K) (hc : X.calm = true) (h : PGs X es t) (hn : (assignEach es X.env).length = n := by rfl) (hst : (assignEach es X.env).findIdx? (·.1) = none := by rfl) :
    PG X (.Tuple es k pos) (gTup K n t) := by
  subst e
  exact pg_tup hc h hn hst
theorem butSame {p : Addr} {H H1 H2 : Hp} (s : Same H H1) (n : H p = none) (b : But p H1 H2) : Same H H2 := fun c o e => b c o (ne_of_none e n) (s c o e)
end Bk

namespace Bk
open PySem PySem.Spec PyProof.Rows L2
/-! ## 16. things whose text is short -/
mutual
def smallD : PyData → Bool
  | .none | .bool _ => true
  | .int i => decide (i.natAbs < 10 ^ 38)
  | .str x => x.cps.toList.all fun c => decide (c < 16 ^ 8)
  | .list xs | .tuple xs => smallL xs
  | .dict _ => false
def smallL : List PyData → Bool
  | [] => true
  | x :: xs => smallD x && smallL xs
end
mutual
theorem small_ok : ∀ d : PyData, smallD d = true → d.showable = true ∧ d.leavesShort 40 = true
  | .none, _ => ⟨rfl, rfl⟩
  | .bool _, _ => ⟨rfl, rfl⟩
  | .int i, h => by
    have h' : i.natAbs < 10 ^ 38 := by simpa only [smallD, decide_eq_true_eq] using h
    have l1 := int_text_length_le10 (k := 38) (by decide) h'
    refine ⟨?_, ?_⟩
    · simp only [PyData.showable, decide_eq_true_eq]
      by_cases z : i.natAbs = 0
      · rw [z]; decide
      · have z2 := (Nat.log2_lt z (k := 128)).mpr (Nat.lt_of_lt_of_le h' (by decide))
        omega
    · simp only [PyData.leavesShort]
      refine decide_eq_true ?_
      have e : (PyData.shown (.int i)).length = (toString i).length := by
        simp only [PyData.shown]
        exact PySem.ofString_length _
      omega
  | .str x, h => ⟨by simp only [PyData.showable], by simpa only [smallD, PyData.leavesShort] using h⟩
  | .list xs, h => by simpa only [PyData.showable, PyData.leavesShort] using small_okL xs (by simpa only [smallD] using h)
  | .tuple xs, h => by simpa only [PyData.showable, PyData.leavesShort] using small_okL xs (by simpa only [smallD] using h)
  | .dict _, h => by simp only [smallD] at h; exact nomatch h
theorem small_okL : ∀ xs : List PyData, smallL xs = true → PyData.showableAll xs = true ∧ PyData.leavesShortAll 40 xs = true
  | [], _ => ⟨rfl, rfl⟩
  | x :: xs, h => by
    have h' : smallD x = true ∧ smallL xs = true := by simpa only [smallL, Bool.and_eq_true] using h
    obtain ⟨a, b⟩ := small_ok x h'.1
    obtain ⟨c, d⟩ := small_okL xs h'.2
    exact ⟨by simp only [PyData.showableAll, a, c, Bool.and_true], by simp only [PyData.leavesShortAll, b, d, Bool.and_true]⟩
end
section
variable {K : PySem.W.Frag} {H H' : Hp} {v : V} {a : Addr} {xs : List V}
theorem shw_of {d : PyData} (h : Dp K H v d) (s : smallD d = true) (b : d.bulk ≤ 20000) (e : d.depth ≤ 60) : Shw K H v d.shown := by
  obtain ⟨h1, h2⟩ := small_ok d s
  have h3 := PyData.shown_le_bulk 40 (by decide) d h2
  exact .inl ⟨d, h, h1, by rw [sizeLine_eq]; omega, e, rfl⟩
theorem shw_dK (e : H a = some (.dK [])) : Shw K H (.ref a) "{}" := .inr ⟨a, rfl, e, rfl⟩
/-- a thing within a list -/
def Itm (K : PySem.W.Frag) (H : Hp) (v : V) : Prop := ∃ d, Dp K H v d ∧ smallD d = true ∧ d.bulk ≤ 100 ∧ d.depth ≤ 20
theorem itm_shw (h : Itm K H v) : ∃ z, Shw K H v z := let ⟨_, h1, h2, h3, h4⟩ := h; ⟨_, shw_of h1 h2 (by omega) (by omega)⟩
theorem itms : ∀ {xs : List V}, (∀ y ∈ xs, Itm K H y) → ∃ ds, DpAll K H xs ds ∧ smallL ds = true ∧ PyData.bulkAll ds ≤ 101 * xs.length ∧ PyData.depthAll ds ≤ 20
  | [], _ => ⟨[], .nil, rfl, Nat.le_refl _, Nat.zero_le _⟩
  | y :: ys, h => by
    obtain ⟨d, h1, h2, h3, h4⟩ := h y List.mem_cons_self
    obtain ⟨ds, g1, g2, g3, g4⟩ := itms fun z hz => h z (List.mem_cons_of_mem _ hz)
    refine ⟨d :: ds, .cons h1 g1, by simp only [smallL, h2, g2, Bool.and_true], ?_, ?_⟩
    · simp only [PyData.bulkAll, List.length_cons]
      omega
    · simp only [PyData.depthAll]
      omega
theorem shw_lst (h : SqL K H a xs) (i : ∀ y ∈ xs, Itm K H y) (l : xs.length ≤ 150) : ∃ z, Shw K H (.ref a) z := by
  obtain ⟨ds, g1, g2, g3, g4⟩ := itms i
  exact ⟨_, shw_of (.lst h g1) (by simpa only [smallD] using g2) (by simp only [PyData.bulk]; omega) (by simp only [PyData.depth]; omega)⟩
theorem shw_tup (h : SqT K H a xs) (i : ∀ y ∈ xs, Itm K H y) (l : xs.length ≤ 150) : ∃ z, Shw K H (.ref a) z := by
  obtain ⟨ds, g1, g2, g3, g4⟩ := itms i
  exact ⟨_, shw_of (.tup h g1) (by simpa only [smallD] using g2) (by simp only [PyData.bulk]; omega) (by simp only [PyData.depth]; omega)⟩
/-! scalars -/
def datS : V → PyData
  | .bl b => .bool b
  | .int i => .int i
  | .str z => .str z
  | _ => .none
def smS : V → Bool
  | .non | .bl _ => true
  | .int i => decide (i.natAbs < 10 ^ 38)
  | .str z => decide (z.length ≤ 90) && z.cps.toList.all fun c => decide (c < 16 ^ 8)
  | _ => false
theorem datS_ok (h : smS v = true) : Dp K H v (datS v) ∧ smallD (datS v) = true ∧ (datS v).bulk ≤ 100 ∧ (datS v).depth = 0 := by
  cases v with
  | non => exact ⟨.non, by simp only [datS, smallD], by simp [datS, PyData.bulk], by simp only [datS, PyData.depth]⟩
  | bl b => exact ⟨.bl b, by simp only [datS, smallD], by simp [datS, PyData.bulk], by simp only [datS, PyData.depth]⟩
  | int i => exact ⟨.int i, by simpa only [datS, smallD, smS] using h, by simp [datS, PyData.bulk], by simp only [datS, PyData.depth]⟩
  | str z =>
    have h' : z.length ≤ 90 ∧ (z.cps.toList.all fun c => decide (c < 16 ^ 8)) = true := by
      have z2 := Bool.and_eq_true_iff.mp (show (decide (z.length ≤ 90) && z.cps.toList.all fun c => decide (c < 16 ^ 8)) = true from h)
      exact ⟨of_decide_eq_true z2.1, z2.2⟩
    have hz : z.cps.size ≤ 90 := h'.1
    exact ⟨.str z, by simpa only [datS, smallD] using h'.2, by simp only [datS, PyData.bulk]; omega, by simp only [datS, PyData.depth]⟩
  | _ => exact nomatch h
theorem itm_sc (h : smS v = true) : Itm K H v := let ⟨h1, h2, h3, h4⟩ := datS_ok h; ⟨_, h1, h2, h3, by omega⟩
theorem shw_sc (h : smS v = true) : Shw K H v (datS v).shown := let ⟨h1, h2, h3, h4⟩ := datS_ok h; shw_of h1 h2 (by omega) (by omega)
theorem datSs : ∀ {xs : List V}, xs.all smS = true → DpAll K H xs (xs.map datS) ∧ smallL (xs.map datS) = true ∧ PyData.bulkAll (xs.map datS) ≤ 101 * xs.length ∧ PyData.depthAll (xs.map datS) = 0
  | [], _ => ⟨.nil, rfl, Nat.le_refl _, rfl⟩
  | y :: ys, h => by
    rw [List.all_cons, Bool.and_eq_true] at h
    obtain ⟨h1, h2, h3, h4⟩ := datS_ok (K := K) (H := H) h.1
    obtain ⟨g1, g2, g3, g4⟩ := datSs h.2
    rw [List.map_cons]
    refine ⟨.cons h1 g1, by simp only [smallL, h2, g2, Bool.and_true], ?_, ?_⟩
    · simp only [PyData.bulkAll, List.length_cons]
      omega
    · simp only [PyData.depthAll, h4, g4]
      rfl
theorem shw_lsc (h : SqL K H a xs) (i : xs.all smS = true) (l : xs.length ≤ 150) : Shw K H (.ref a) (PyData.list (xs.map datS)).shown := by
  obtain ⟨g1, g2, g3, g4⟩ := datSs (K := K) (H := H) i
  exact shw_of (.lst h g1) (by simpa only [smallD] using g2) (by simp only [PyData.bulk]; omega) (by simp only [PyData.depth]; omega)
theorem shw_tsc (h : SqT K H a xs) (i : xs.all smS = true) (l : xs.length ≤ 150) : Shw K H (.ref a) (PyData.tuple (xs.map datS)).shown := by
  obtain ⟨g1, g2, g3, g4⟩ := datSs (K := K) (H := H) i
  exact shw_of (.tup h g1) (by simpa only [smallD] using g2) (by simp only [PyData.bulk]; omega) (by simp only [PyData.depth]; omega)
end
theorem smS_int {i : Int} (h : i.natAbs < 10 ^ 38) : smS (.int i) = true := decide_eq_true h
theorem smS_bls {bs : List Bool} : (bs.map V.bl).all smS = true := by
  rw [List.all_map]
  exact List.all_eq_true.mpr fun _ _ => rfl
end Bk

namespace Bk
open PySem PySem.Spec PyProof.Rows L2
/-! ## 18. what k03 left for all -/
theorem seqT {K : PySem.W.Frag} {H H' : Hp} {a : Addr} {xs : List V} (s : Same H H') (h : SqT K H a xs) : SqT K H' a xs := by
  rcases h with (h | ⟨o, h⟩) | h
  · exact .inl (.inl (s _ _ h))
  · exact .inl (.inr ⟨o, s _ _ h⟩)
  · exact .inr h
theorem Refuse.on {C : Addr} {v : V} {H H' : Hp} {E : XK} (r : Refuse C v H E) (s : Same H H') : Refuse C v H' E := fun d H2 hd s2 e => r d H2 (s.free hd) (s.trans s2) e
section
variable {K : PySem.W.Frag} {H : Hp} {a : Addr} {T U : String} {b c : Bool}
theorem isb_lst {xs : List V} (e : H a = some (.lst xs)) (h : kitB "list" T = some b := by decide +kernel) (h2 : kitB "list" U = some c := by decide +kernel) : IsB K H (.ref a) T U (b || c) := ⟨.type "list", .base (.lst e), kit2 (kit_ty h) (kit_ty h2)⟩
theorem isb_tup {xs : List V} (e : H a = some (.tup xs)) (h : kitB "tuple" T = some b := by decide +kernel) (h2 : kitB "tuple" U = some c := by decide +kernel) : IsB K H (.ref a) T U (b || c) := ⟨.type "tuple", .base (.tup e), kit2 (kit_ty h) (kit_ty h2)⟩
theorem isb_dK {kvs : List (Key × V)} (e : H a = some (.dK kvs)) (h : kitB "dict" T = some b := by decide +kernel) (h2 : kitB "dict" U = some c := by decide +kernel) : IsB K H (.ref a) T U (b || c) := ⟨.type "dict", .base (.dK e), kit2 (kit_ty h) (kit_ty h2)⟩
theorem isb_int {i : Int} (h : kitB "int" T = some b := by decide +kernel) (h2 : kitB "int" U = some c := by decide +kernel) : IsB K H (.int i) T U (b || c) := ⟨.type "int", .base (.int i), kit2 (kit_ty h) (kit_ty h2)⟩
theorem isb_bl {k : Bool} (h : kitB "bool" T = some b := by decide +kernel) (h2 : kitB "bool" U = some c := by decide +kernel) : IsB K H (.bl k) T U (b || c) := ⟨.type "bool", .base (.bl k), kit2 (kit_ty h) (kit_ty h2)⟩
theorem isb_str {z : Str} (h : kitB "str" T = some b := by decide +kernel) (h2 : kitB "str" U = some c := by decide +kernel) : IsB K H (.str z) T U (b || c) := ⟨.type "str", .base (.str z), kit2 (kit_ty h) (kit_ty h2)⟩
theorem isb_non (h : kitB "NoneType" T = some b := by decide +kernel) (h2 : kitB "NoneType" U = some c := by decide +kernel) : IsB K H .non T U (b || c) := ⟨.type "NoneType", .base .non, kit2 (kit_ty h) (kit_ty h2)⟩
end
theorem r_yes {σ : L2.St} {H : Hp} {te : TE} {Q : VK} {R : Hp → Prop} (q : te σ H Q) : tYes σ H (fun b H4 => if b = true then te σ H4 Q else R H4) := by
  show if true = true then te σ H Q else R H
  exact iteT q
section
variable {K : PySem.W.Frag} {σ : L2.St} {H : Hp} {Q : VK} {i0 j j1 j2 : Nat} {vs : List Nat} {a : Addr} {xs : List V} {te : TE} {tt : TT}
/-- over a list or a tuple -/
theorem lcA (p : Nat → V) (hv : σ[i0]? = some (some (.ref a))) (hs : SqL K H a xs ∨ SqT K H a xs) (hl : xs.length ≤ 10000) (hw : ∀ x, wipe ((wipe σ vs).set j (some x)) vs = wipe σ vs)
    (ht : ∀ (i : Nat) (y : V) (H' : Hp) (Q' : VK), xs[i]? = some y → Same H H' → (∀ H2, Same H' H2 → Q' (p i) H2) → te ((wipe σ vs).set j (some y)) H' Q')
    (q : ∀ D H', H D = none → Same H H' → H' D = some (.lst ((List.range xs.length).map p)) → Q (.ref D) H') : tLc (iSeqA K (tVar i0)) (gName j) tYes te vs σ H Q := by
  have go : ∀ {J : It} {G : Hp → Prop}, Walk J xs.length G (YAt xs) → (∀ H', Same H H' → G H') → ∀ D, H D = none → _ := fun {J G} wk hG D hD =>
    lc_by (g := gName j) (tt := tYes) (te := te) (vs := vs) (σ := σ) (Q := Q) wk (fun i => some (p i)) hD hl hG (fun i y H1 H2 Q' R' hi sm ⟨e, hy⟩ h1 _ => ⟨hw _, by
      subst e
      exact r_yes (ht i y H2 Q' hy sm (h1 _ rfl))⟩) fun H' sm e => q D H' hD sm (by
      rw [e]
      show some (HO.lst (List.filterMap (some ∘ p) _)) = _
      rw [List.filterMap_eq_map])
  refine ⟨_, hv, a, xs, rfl, ?_⟩
  rcases hs with hs | hs
  · exact .inl ⟨hs, go walk_list fun H' sm => sm.seq hs⟩
  · exact .inr ⟨hs, go walk_tup fun H' sm => seqT sm hs⟩
/-- enumerate of a list or a tuple, some left out -/
theorem lcE (p : Nat → V → Option V) (hv : σ[i0]? = some (some (.ref a))) (hs : SqL K H a xs ∨ SqT K H a xs) (hl : xs.length ≤ 10000) (hw : ∀ x y, wipe (((wipe σ vs).set j1 (some x)).set j2 (some y)) vs = wipe σ vs)
    (ht : ∀ (i : Nat) (y : V) (H' : Hp) (Q' : VK) (R' : Hp → Prop), xs[i]? = some y → Same H H' → (∀ v, p i y = some v → ∀ H2, Same H' H2 → Q' v H2) → (p i y = none → ∀ H2, Same H' H2 → R' H2) →
      tt (((wipe σ vs).set j1 (some (.int i))).set j2 (some y)) H' fun b H4 => if b = true then te (((wipe σ vs).set j1 (some (.int i))).set j2 (some y)) H4 Q' else R' H4)
    (q : ∀ D H', H D = none → Same H H' → H' D = some (.lst ((List.range xs.length).filterMap fun i => xs[i]?.bind (p i))) → Q (.ref D) H') :
    tLc (iEnumA K (tCons (tVar i0) tNil)) (gTup K 2 (gCons (gName j1) (gCons (gName j2) gNil))) tt te vs σ H Q := by
  have go : ∀ {J : It} {G : Hp → Prop}, Walk J xs.length G (YPair (fun i => some (.int (i : Nat))) (fun i => xs[i]?)) → (∀ H', Same H H' → G H') → ∀ D, H D = none → _ := fun {J G} wk hG D hD =>
    lc_by (g := gTup K 2 (gCons (gName j1) (gCons (gName j2) gNil))) (tt := tt) (te := te) (vs := vs) (σ := σ) (Q := Q) wk (fun i => xs[i]?.bind (p i)) hD hl hG (fun i v H1 H2 Q' R' hi sm ⟨Tn, x, y, e1, nT, e2, hx, hy⟩ h1 h2 => by
      subst e1 e2
      injection hx with hx
      subst hx
      have sT := same_upd (o := .tup [.int (i : Nat), y]) nT
      have ey : xs[i]?.bind (p i) = p i y := by
        rw [show xs[i]? = some y from hy]
        rfl
      refine ⟨Tn, _, rfl, sqT upd_same, rfl, .int i, _, rfl, y, _, rfl, rfl, hw _ _, ?_⟩
      exact ht i y _ Q' R' hy (sm.trans sT) (fun v hv H3 s3 => h1 v (by rw [ey]; exact hv) H3 (sT.trans s3)) fun hn H3 s3 => h2 (by rw [ey]; exact hn) H3 (sT.trans s3)) fun H' sm e => q D H' hD sm e
  refine ⟨_, hv, a, xs, rfl, ?_⟩
  rcases hs with hs | hs
  · exact .inl ⟨hs, go walk_enum fun H' sm => sm.seq hs⟩
  · exact .inr ⟨hs, go walk_enumT fun H' sm => seqT sm hs⟩
end
theorem map_getD {α : Type} (f : V → α) (d : V) (xs : List V) : (List.range xs.length).map (fun i => f (xs.getD i d)) = xs.map f := by
  refine List.ext_getElem (by simp) fun i h1 h2 => ?_
  simp only [List.getElem_map, List.getElem_range]
  have h : i < xs.length := by simpa using h1
  rw [List.getD_eq_getElem?_getD, List.getElem?_eq_getElem h]
  rfl
/-! ## 17. comprehensions over a list, a tuple, a range -/
section
variable {K : PySem.W.Frag} {σ : L2.St} {H : Hp} {Q : VK} {i0 j : Nat} {vs : List Nat} {a : Addr} {xs : List V} {te : TE}
theorem lc_map {J : It} {n : Nat} {G : Hp → Prop} {Y : Nat → Hp → V → Hp → Prop} {D : Addr} (wk : Walk J n G Y) (hY : ∀ i H1 x H2, i < n → Y i H1 x H2 → H2 = H1) (p : Nat → V) (hl : n ≤ 10000) (hG : ∀ H', Same H H' → G H') (hw : ∀ x, wipe ((wipe σ vs).set j (some x)) vs = wipe σ vs)
    (ht : ∀ (i : Nat) (y : V) (H1 H' : Hp) (Q' : VK), i < n → Y i H1 y H' → Same H H' → (∀ H2, Same H' H2 → Q' (p i) H2) → te ((wipe σ vs).set j (some y)) H' Q')
    (q : ∀ D H', H D = none → Same H H' → H' D = some (.lst ((List.range n).map p)) → Q (.ref D) H') (hD : H D = none) : ∃ W : Nat → Nat → Hp → Prop, (∃ m, W 0 m (upd H D (.lst []))) ∧ ∀ i m H, W i m H →
      (J.stop i H ∧ Q (.ref D) H) ∨ (J.go i H ∧ ∃ Nx : Hp → Prop, (∀ H', Nx H' → ∃ m', m' < m ∧ W (i + 1) m' H') ∧ ∀ x H', J.yld i H x H' → gName j x (wipe σ vs) H' fun σ2 H2 => wipe σ2 vs = wipe σ vs ∧ tYes σ2 H2 fun b H3 =>
        if b = true then te σ2 H3 fun y H4 => ∃ acc, H4 D = some (.lst acc) ∧ acc.length < sizeLine ∧ Nx (upd H4 D (.lst (acc ++ [y]))) else Nx H3) :=
  lc_by (g := gName j) (tt := tYes) (te := te) (vs := vs) (σ := σ) (Q := Q) wk (fun i => some (p i)) hD hl hG (fun i y H1 H2 Q' R' hi sm e h1 _ => ⟨hw _, by
    obtain rfl := hY i _ _ _ hi e
    exact r_yes (ht i y H2 H2 Q' hi e sm (h1 _ rfl))⟩) fun H' sm e => q D H' hD sm (by
      rw [e]
      show some (HO.lst (List.filterMap (some ∘ p) _)) = _
      rw [List.filterMap_eq_map])
theorem lcT (p : Nat → V) (hv : σ[i0]? = some (some (.ref a))) (hs : SqT K H a xs) (hl : xs.length ≤ 10000) (hw : ∀ x, wipe ((wipe σ vs).set j (some x)) vs = wipe σ vs)
    (ht : ∀ (i : Nat) (y : V) (H' : Hp) (Q' : VK), xs[i]? = some y → Same H H' → (∀ H2, Same H' H2 → Q' (p i) H2) → te ((wipe σ vs).set j (some y)) H' Q')
    (q : ∀ D H', H D = none → Same H H' → H' D = some (.lst ((List.range xs.length).map p)) → Q (.ref D) H') : tLc (iTup K (tVar i0)) (gName j) tYes te vs σ H Q :=
  ⟨_, hv, a, rfl, ⟨xs, hs⟩, fun D hD => lc_map (j := j) walk_tup (fun _ _ _ _ _ z => z.1) p hl (fun H' sm => seqT sm hs) hw (fun i y H1 H' Q' _ e sm k => ht i y H' Q' e.2 sm k) q hD⟩
theorem lcL (p : Nat → V) (hv : σ[i0]? = some (some (.ref a))) (hs : SqL K H a xs) (hl : xs.length ≤ 10000) (hw : ∀ x, wipe ((wipe σ vs).set j (some x)) vs = wipe σ vs)
    (ht : ∀ (i : Nat) (y : V) (H' : Hp) (Q' : VK), xs[i]? = some y → Same H H' → (∀ H2, Same H' H2 → Q' (p i) H2) → te ((wipe σ vs).set j (some y)) H' Q')
    (q : ∀ D H', H D = none → Same H H' → H' D = some (.lst ((List.range xs.length).map p)) → Q (.ref D) H') : tLc (iList K (tVar i0)) (gName j) tYes te vs σ H Q :=
  ⟨_, hv, a, rfl, ⟨xs, hs⟩, fun D hD => lc_map (j := j) walk_list (fun _ _ _ _ _ z => z.1) p hl (fun H' sm => sm.seq hs) hw (fun i y H1 H' Q' _ e sm k => ht i y H' Q' e.2 sm k) q hD⟩
/-- what is drawn at each turn: the box changes -/
theorem lcDraw {n m : Nat} {bx : Addr} (p : V → Prop) (hb : Box bx m H) (hl : n ≤ 1000) (hw : ∀ x, wipe ((wipe σ vs).set j (some x)) vs = wipe σ vs)
    (ht : ∀ (i : Nat) (H' : Hp) (Q' : VK), i < n → Box bx (m + i) H' → (∀ v H2, p v → Box bx (m + i + 1) H2 → But bx H' H2 → Q' v H2) → te ((wipe σ vs).set j (some (.int i))) H' Q')
    (q : ∀ D H' xs, H D = none → But bx H H' → Box bx (m + n) H' → H' D = some (.lst xs) → xs.length = n → (∀ v ∈ xs, p v) → Q (.ref D) H') : tLc (iRng1 (tCons (tC (.int n)) tNil)) (gName j) tYes te vs σ H Q := by
  refine ⟨_, rfl, by omega, by omega, fun D hD => ?_⟩
  have nD : D ≠ bx := hb.ne hD
  rw [Int.toNat_natCast]
  refine lc_it (g := gName j) (tt := tYes) (te := te) (vs := vs) (σ := σ) (n := n) walk_range (fun i G => But bx H G ∧ Box bx (m + i) G ∧ ∃ xs, G D = some (.lst xs) ∧ xs.length = i ∧ ∀ v ∈ xs, p v)
    ⟨.of (same_upd hD), hb.same (same_upd hD), [], upd_same, rfl, fun _ z => nomatch z⟩ (fun _ _ _ _ => trivial) (fun i x H1 H2 hi ⟨bt, hB, xs, e, l, hp⟩ y => ?_) fun G ⟨bt, hB, xs, e, l, hp⟩ => q D G xs hD bt hB e l hp
  obtain ⟨rfl, rfl⟩ := y
  refine ⟨hw _, ?_⟩
  show te ((wipe σ vs).set j (some (.int (0 + (i : Int))))) _ _
  rw [Int.zero_add]
  refine ht i H2 _ hi hB fun v H3 pv hB3 b3 => ⟨xs, b3 _ _ nD e, by rw [l]; exact Nat.lt_of_lt_of_le hi (Nat.le_trans hl (by decide)), ?_, ?_, xs ++ [v], upd_same, by rw [List.length_append, l]; rfl, fun u hu => ?_⟩
  · exact fun b o ne e0 => by
      have z := b3 _ _ ne (bt _ _ ne e0)
      rw [upd_ne (ne_of_none e0 hD)]
      exact z
  · obtain ⟨x1, y1, z1, eB, r⟩ := hB3
    exact ⟨x1, y1, z1, by rw [upd_ne nD.symm]; exact eB, r⟩
  · rcases List.mem_append.mp hu with z | z
    · exact hp u z
    · rw [List.mem_singleton.mp z]; exact pv
end
/-- except C as e: return (tag, e.found) -/
theorem caught_at {K : PySem.W.Frag} {C d : Addr} {i : Nat} {σ : L2.St} {H' : Hp} {D : Ends} {l : List ClA} {v : V} {tag : Str} (e : PySem.W.exmOne K (.ref C) (.ref C) = some true) (hi : i < σ.length) (ed : H' d = some (.xd [("found", v)]))
    (q : ∀ p H2, H' p = none → Same H' H2 → H2 p = some (.tup [.str tag, v]) → D.rt (.ref p) H2) :
    wAM K D ((.ref C, i, fun a cls d => tRet (tTup (tCons (tC (.str tag)) (tCons (tXf a cls d C "found" (tVar i)) tNil)))) :: l) (.ref C) (some d) σ H' := by
  refine w_hit e fun a na => ?_
  show tRet (tTup (tCons (tC (.str tag)) (tCons (tXf a (.ref C) (some d) C "found" (tVar i)) tNil))) (offI i D) (σ.set i (some (.ref a))) H'
  refine r_ret (r_tup (r_cons (r_c (r_cons ?_))))
  refine ⟨.ref a, List.getElem?_set_self hi, rfl, rfl, d, _, v, rfl, ed, rfl, ?_⟩
  exact r_nil (newT fun p H2 np s2 e2 => q p H2 np s2 e2)
theorem fm_congr {α β : Type} {f g : α → Option β} : ∀ {l : List α}, (∀ x ∈ l, f x = g x) → l.filterMap f = l.filterMap g
  | [], _ => rfl
  | x :: l, h => by
    rw [List.filterMap_cons, List.filterMap_cons, h x List.mem_cons_self, fm_congr fun y hy => h y (List.mem_cons_of_mem _ hy)]
section
variable {K : PySem.W.Frag} {H : Hp} {x y : V} {Q : VK}
theorem r_neSame {d : PyData} (h1 : Dp K H x d) (h2 : Dp K H y d) (s : SeqAt.shaped d = true) (q : Q (.bl false) H) : rNeD K x y H Q :=
  ⟨d, d, h1, h2, s, s, by rw [SeqAt.eqv_refl d (SeqAt.canLay_of_shaped s)]; exact q⟩
end
theorem box_upd {bx a : Addr} {n : Nat} {H : Hp} {o : HO} (h : Box bx n H) (ne : a ≠ bx) : Box bx n (upd H a o) := by
  obtain ⟨x, y, z, e, r⟩ := h
  exact ⟨x, y, z, by rw [upd_ne ne.symm]; exact e, r⟩
theorem but_upd {bx a : Addr} {H0 H : Hp} {o : HO} (b : But bx H0 H) (fr : H0 a = none) : But bx H0 (upd H a o) := fun c u ne e => by
  rw [upd_ne (ne_of_none e fr)]
  exact b c u ne e
theorem cut_to {xs : List V} {m : Nat} (h : m ≤ xs.length) : cutV xs none (some (m : Int)) = xs.take m := by
  unfold cutV
  rw [HT.sIx_none, HT.sIx_nat, Nat.min_eq_left h, List.drop_zero, Nat.sub_zero]
theorem cut_from {xs : List V} {m : Nat} (h : m ≤ xs.length) : cutV xs (some (m : Int)) none = xs.drop m := by
  unfold cutV
  rw [HT.sIx_none, HT.sIx_nat, Nat.min_eq_left h]
  exact List.take_of_length_le (by rw [List.length_drop]; exact Nat.le_refl _)
section
variable {H : Hp} {Q : VK} {a b : Addr} {xs ys : List V} {lo hi : Option Int}
theorem r_slL {K : PySem.W.Frag} (h : SqL K H a xs) (e : cutV xs lo hi = ys) (q : ∀ p H', H p = none → Same H H' → H' p = some (.lst ys) → Q (.ref p) H') : rSlL K (.ref a) lo hi H Q :=
  ⟨a, xs, rfl, h, fun p n => q p _ n (same_upd n) (by rw [upd_same, e])⟩
theorem r_cat (h1 : H a = some (.lst xs)) (h2 : H b = some (.lst ys)) (q : ∀ p H', H p = none → Same H H' → H' p = some (.lst (xs ++ ys)) → Q (.ref p) H') (l : xs.length + ys.length ≤ 10000 := by omega) : rCat (.ref a) (.ref b) H Q :=
  ⟨a, b, xs, ys, rfl, rfl, h1, h2, Nat.le_trans l (by decide), fun p n => q p _ n (same_upd n) upd_same⟩
end
theorem shw_tup2 {K : PySem.W.Frag} {H : Hp} {a b : Addr} {xs : List V} (h : SqT K H a xs) (h2 : SqT K H b xs) (i : ∀ y ∈ xs, Itm K H y) (l : xs.length ≤ 150) : ∃ z, Shw K H (.ref a) z ∧ Shw K H (.ref b) z := by
  obtain ⟨ds, g1, g2, g3, g4⟩ := itms i
  exact ⟨_, shw_of (.tup h g1) (by simpa only [smallD] using g2) (by simp only [PyData.bulk]; omega) (by simp only [PyData.depth]; omega),
    shw_of (.tup h2 g1) (by simpa only [smallD] using g2) (by simp only [PyData.bulk]; omega) (by simp only [PyData.depth]; omega)⟩
theorem but_none {a c : Addr} {H G : Hp} (b : But a H G) (ne : c ≠ a) (h : G c = none) : H c = none := by
  cases e : H c with
  | none => rfl
  | some o => exact nomatch h.symm.trans (b _ _ ne e)
theorem r_par {i j : Nat} {ta : TA} {D : Ends} {σ : L2.St} {H : Hp} (q : ta σ H fun vs H1 => ∃ v w, vs = [v, w] ∧ D.nx ((σ.set i (some v)).set j (some w)) H1) : tPar i j ta D σ H := q
theorem small_int {i : Int} (h0 : -100000 ≤ i) (h1 : i ≤ 100000) : smS (.int i) = true := smS_int (Nat.lt_of_lt_of_le (show i.natAbs < 1000000 by omega) (by decide))
structure Exc (K : PySem.W.Frag) (C f : Addr) : Prop where
  ox : OexC K C
  i : PySem.W.findIn K (.ref C) "__init__" = some (some (.ref f))
  t : PySem.W.typeIn K (.ref f) = some (.type "function")
  nf : PySem.W.findIn K (.ref C) "found" = some none
  xf : XfC K C
def spGE (K : PySem.W.Frag) : Sp := fun vs H Q _ => ∃ (a C : Addr) (x : V), vs = [.ref a, x] ∧ OexC K C ∧ H a = some (exo a C none) ∧ Q .non H
def wholeV (x : V) (lo hi : Int) : Bool := match x with
  | .int i => decide (lo ≤ i) && decide (i ≤ hi)
  | _ => false
/-- a thing of which isinstance(.., int) is known -/
def WD (K : PySem.W.Frag) (H : Hp) (x : V) : Prop := (∃ i, x = .int i) ∨ (∃ b, x = .bl b) ∨ (IsA K H x "int" false ∧ ∀ l h, wholeV x l h = false)
def spWhole (K : PySem.W.Frag) : Sp := fun vs H Q _ => ∃ (x : V) (lo hi : Int), vs = [x, .int lo, .int hi] ∧ WD K H x ∧ Q (.bl (wholeV x lo hi)) H
def wd (x : V) : Bool := wholeV x 0 4095
def spIsWord (K : PySem.W.Frag) : Sp := fun vs H Q _ => ∃ x : V, vs = [x] ∧ WD K H x ∧ Q (.bl (wd x)) H
def spCheck (K : PySem.W.Frag) (CW : Addr) : Sp := fun vs H Q E => ∃ x : V, vs = [x] ∧ WD K H x ∧ ((wd x = true ∧ Q .non H) ∨ (wd x = false ∧ Refuse CW x H E))
theorem wd_int {i : Int} (h0 : 0 ≤ i) (h1 : i ≤ 4095) : wd (.int i) = true := by
  show (decide (0 ≤ i) && decide (i ≤ 4095)) = true
  rw [decide_eq_true h0, decide_eq_true h1]
  rfl
end Bk

namespace Bk
open PySem PySem.Spec PyProof.Rows L2
/-! ## 19. a text is no dict -/
theorem str_not_dict (x : Str) (t : Tok) (d : Addr) (o : Obj) (es : Array DictEntry) (ep : Nat) (hd : o.data = .dict es ep) (hc : o.cls = .type "dict") :
    Meets (Builtin.«str.__eq__» ⟨[.str x t, .ref d], []⟩) (fun _ R s => s.heap.get? d = some o ∧ R (.ok (.ret .notImplemented)) s) :=
  .of_wp fun prog w A R s h => by
    obtain ⟨hp, g, dr, tk, os⟩ := s
    obtain ⟨hl, h⟩ := h
    obtain ⟨c, dd, dt, sl⟩ := o
    subst hd hc
    wp_walk using wpAny_load hl
    exact ⟨_, rfl, h⟩
theorem dict_not_str (x : Str) (t : Tok) (d : Addr) (o : Obj) (es : Array DictEntry) (ep : Nat) (hd : o.data = .dict es ep) (hc : o.cls = .type "dict") :
    Meets (Builtin.«dict.__eq__» ⟨[.ref d, .str x t], []⟩) (fun _ R s => s.heap.get? d = some o ∧ R (.ok (.ret .notImplemented)) s) :=
  .of_wp fun prog w A R s h => by
    obtain ⟨hp, g, dr, tk, os⟩ := s
    obtain ⟨hl, h⟩ := h
    obtain ⟨c, dd, dt, sl⟩ := o
    subst hd hc
    have f1 := F.sub_str_dict
    wp_walk using wpAny_load hl
    exact ⟨_, rfl, h⟩
def rEqSD : R2 := fun x y H Q => ∃ (z : Str) (a : Addr) (kvs : List (Key × V)), x = .str z ∧ y = .ref a ∧ H a = some (.dK kvs) ∧ Q (.bl false) H
section
variable {X : Cx}
theorem op_eqSD (hu : X.A.units < cLine) : OpR X (compareOp .Eq) rEqSD := by
  intro pins s σ H x y v u Q I rx ry h
  obtain ⟨z, a, kvs, rfl, rfl, e, q⟩ := h
  obtain ⟨t, rfl⟩ := rx
  obtain rfl : u = Value.ref a := ry
  obtain ⟨_, _, vs, _, o, es, ep, ho, hx, hd, _⟩ := I.hok a _ e
  have hc : o.cls = .type "dict" := hx.1
  exact SeqAt.rc_eq_decline_or (k := false) (typeIs_str s z t) ⟨_, ho, hc⟩ (by decide) F.sub_dict_str F.slot_str_eq F.slot_dict_eq_refl
    (fun _ hq => call_meets F.slot_str_eq (typeIs_str s z t) F.entry_str_eq (F.args_str_eq_2 _ _) (str_not_dict z t a o es ep hd hc) ⟨ho, hq⟩)
    (fun _ hq => call_meets F.slot_dict_eq_refl ⟨_, ho, hc⟩ F.entry_dict_eq (F.args_dict_eq_2 _ _) (dict_not_str z t a o es ep hd hc) ⟨ho, hq⟩)
    (fun _ hq => wpAny_of_eq (rfl : isSame (.str z t) (.ref a) = pure false) hq) (.inr hu) ⟨.bl false, H, I, rfl, q⟩
/-- a text beside any thing -/
def rEqS (K : PySem.W.Frag) : R2 := fun x y H Q => (rEq x y H Q ∨ rEqD K x y H Q) ∨ rEqSD x y H Q
theorem op_eqS (hu : X.A.units + 64 < cLine) : OpR X (compareOp .Eq) (rEqS X.K) := OpR.or (OpR.or op_eq (op_eqD hu)) (op_eqSD (by omega))
end
/-! ## 20. refusing defs called with keywords beside values, or with defaults -/
structure CalMX (P : Program) (w : World) (K : PySem.W.Frag) (mg : Str → Option Value) (base : Heap) (k n : Nat) (ks : List Str) (x : Str) (sp : Sp) (gV : List V → List V → List V) : Prop where
  ex : ∃ (f : Addr) (fd : FuncData) (ps : List Str) (g : List Value → List Value → List Value), mg x = some (.ref f) ∧ PySem.W.keepIn K (.ref f) = true ∧ FnOk P w K mg base (L2.CX P w) k f fd ps sp ∧ KBn K fd ps n ks g gV
theorem CalMX.mk' {P : Program} {w : World} {K : PySem.W.Frag} {mg : Str → Option Value} {base : Heap} {k n : Nat} {ks : List Str} {x : Str} {sp : Sp} {gV : List V → List V → List V} {f : Addr} {fd : FuncData} {ps : List Str} {g : List Value → List Value → List Value} (a : mg x = some (.ref f)) (kp : PySem.W.keepIn K (.ref f) = true)
    (F : FnOk P w K mg base (L2.CX P w) k f fd ps sp) (b : KBn K fd ps n ks g gV) : CalMX P w K mg base k n ks x sp gV := ⟨f, fd, ps, g, a, kp, F, b⟩
structure CalXD (P : Program) (w : World) (K : PySem.W.Frag) (mg : Str → Option Value) (base : Heap) (k : Nat) (x : Str) (sp : Sp) (dvs : List V) : Prop where
  ex : ∃ (f : Addr) (fd : FuncData) (ps : List Str) (ds : List Value), mg x = some (.ref f) ∧ PySem.W.keepIn K (.ref f) = true ∧ FnOk P w K mg base (L2.CX P w) k f fd ps sp ∧ Binds K fd ps ds ∧ Vals dvs ds
def tCallNS (n m : Nat) (sp : Sp) (gV : List V → List V → List V) (E : L2.St → XK) (t tk : TA) : TE := fun σ H Q => t σ H fun vs H1 => tk σ H1 fun zs H2 => vs.length = n ∧ zs.length = m ∧ sp (gV vs zs) H2 Q (E σ)
section
variable {X : Cx} {k j n : Nat} {ks : List Str} {sp : Sp} {x : Str} {p pos : Pos} {e : Expr} {es : List Expr} {kws : List Keyword} {t tk : TA} {W : WX} {gV : List V → List V → List V} {dvs : List V}
theorem r_callNS {n m : Nat} {E : L2.St → XK} {σ : L2.St} {H : Hp} {Q : VK} (q : t σ H fun vs H1 => tk σ H1 fun zs H2 => vs.length = n ∧ zs.length = m ∧ sp (gV vs zs) H2 Q (E σ)) : tCallNS n m sp gV E t tk σ H Q := q
theorem pe_calMY (c : CalMX X.prog X.w X.K X.mg X.base k n ks x sp gV) (hr : Room j X.A) (hk : k ≤ j) (hg : Gl X x) (ha : PA X (e :: es) t) (hkw : PK X kws tk)
    (hall : (backToKw pos (keywordEach kws X.env)).all (·.1.isSome) = true := by rfl) (hks : (backToKw pos (keywordEach kws X.env)).filterMap (·.1) = ks := by rfl)
    (hdb : (x == ("__debug__" : Str)) = false := by decide) (he : starEach (e :: es) X.env = (false, eval e X.env) :: starEach es X.env := by rfl)
    (hpl : ((backTo pos (starEach (e :: es) X.env)).any (·.1) || (backToKw pos (keywordEach kws X.env)).any (·.1.isNone)) = false := by rfl) :
    PE X (.Call (.Name x p) (e :: es) kws pos) (tCallN n ks.length sp gV noE t tk) := by
  obtain ⟨f, fd, ps, g, h1, h2, h3, h4⟩ := c.ex
  exact pe_callN h3 (hr.mono hk) hg h1 h2 h4 pass_no ha hkw hall hks hdb he hpl
theorem pe_calYD (c : CalXD X.prog X.w X.K X.mg X.base k x sp dvs) (hr : Room j X.A) (hk : k ≤ j) (hg : Gl X x) (ha : PA X (e :: es) t)
    (hdb : (x == ("__debug__" : Str)) = false := by decide) (he : starEach (e :: es) X.env = (false, eval e X.env) :: starEach es X.env := by rfl) (hpl : (backTo pos (starEach es X.env)).any (·.1) = false := by rfl) :
    PE X (.Call (.Name x p) (e :: es) [] pos) (tCall sp dvs noE t) := by
  obtain ⟨f, fd, ps, ds, h1, h2, h3, h4, h5⟩ := c.ex
  exact pe_call h3 (hr.mono hk) hg h1 h2 h4 h5 pass_no ha hdb he hpl
/-- in a try -/
theorem pe_calMT (c : CalMX X.prog X.w X.K X.mg X.base k n ks x sp gV) (hr : Room j X.A) (hk : k ≤ j) (hg : Gl X x) (tkW : Takes X W) (ha : PA X (e :: es) t) (hkw : PK X kws tk)
    (hall : (backToKw pos (keywordEach kws X.env)).all (·.1.isSome) = true := by rfl) (hks : (backToKw pos (keywordEach kws X.env)).filterMap (·.1) = ks := by rfl)
    (hdb : (x == ("__debug__" : Str)) = false := by decide) (he : starEach (e :: es) X.env = (false, eval e X.env) :: starEach es X.env := by rfl)
    (hpl : ((backTo pos (starEach (e :: es) X.env)).any (·.1) || (backToKw pos (keywordEach kws X.env)).any (·.1.isNone)) = false := by rfl) :
    PE X (.Call (.Name x p) (e :: es) kws pos) (tCallNS n ks.length sp gV (WE W) t tk) := by
  obtain ⟨f, fd, ps, g, h1, h2, h3, h4⟩ := c.ex
  refine ⟨fun pins s σ H Q I h => ?_⟩
  refine wpAny_Call_Name_kw (ld_glob I hg h1 (PySem.W.callWith_KW (h₀ := X.base) I.ok.mod.kin h2 hall (thn (ha.run pos pins s σ H _ I h) fun us s1 ⟨vs, H1, I1, r, q⟩ => ?_) hpl he) hdb)
  refine thn (hkw.run pos pins s1 σ H1 _ I1 q) fun ws s2 ⟨zs, H2, I2, rz, l1, l2, q2⟩ => ⟨I2.kIn, ?_⟩
  rw [hks]
  refine wpAny_call (codeAny_mono (h3.run X.A X.stack s2 H2 ⟨us, ks.zip ws⟩ (g us ws) (gV vs zs) Q (WE W σ) (hr.mono hk) I2.env0 (h4.to s2 us ws I2.kIn (r.length.symm.trans l1) (rz.length.symm.trans l2)) (h4.rel r rz) q2) fun rr s3 z => ?_)
  match rr, z with
  | .error u, z => exact passAt tkW σ pins H2 s2 u s3 I2 z
  | .ok (.ret _), z => exact I2.after z
end
theorem ix_listK {X : Cx} {K : PySem.W.Frag} (h : X.K = K) : IxR X (rIxL K) := by
  subst h
  exact ix_list
theorem ix_tupK {X : Cx} {K : PySem.W.Frag} (h : X.K = K) : IxR X (rIxT K) := by
  subst h
  exact ix_tup
end Bk

namespace Bk
open PySem PySem.Spec PySem.Calls PyProof.Rows L2
/-! ## 20a. own exception classes under ValueError, LookupError or KeyError -/
/-- what a built-in __init__ of errors must be -/
structure IniF (B initId : String) : Prop where
  init : Slot B "__init__" initId
  entry : entryFor table initId = some Builtin.«BaseException.__init__»
  split : splitId initId = some (B, "__init__")
  kind : builtinKind initId = some .slot
  row : Manifest.signature? initId = some ⟨.positional, "*", B, .self, [⟨"args", .varPos, false⟩]⟩
  noStar : (B != "*") = true
theorem inf_of {B newId initId : String} (F : ExcCallFacts B newId initId) : IniF B initId := ⟨F.init, F.initEntry, F.initSplit, F.initKind, F.initRow, F.noStar⟩
theorem inf_KE : IniF "KeyError" "KeyError.__init__" where
  init := .of (owner := "KeyError") (n := "__init__") (by rw [typeLookup_type, builtinLookup_eq_fast]; kernel_rfl) (by decide +kernel) (by decide +kernel) (by decide +kernel)
    (by first | exact .inl (by decide +kernel) | exact .inr (by decide +kernel)) (by rw [isSubtype_type]; kernel_rfl)
  entry := entryFor_alias (id' := "BaseException.__init__") (by rw [fastTable_eq_tree]; kernel_rfl) (by first | rfl | decide +kernel) (by decide +kernel) (by rw [fastTable_eq_tree]; kernel_rfl)
  split := by kernel_rfl
  kind := by kernel_rfl
  row := by kernel_rfl
  noStar := by decide +kernel
section
variable {M : Model} {prog : Program} {w : World} {A : Around} {E : Value → Shared → Prop} {R : Result → Shared → Prop} {h : Heap} {g : Array GenState} {d : Drawn} {t : Nat} {os : OsState}
variable {nm q : Str} {C N : Addr} {bs bm bmB : List Value} {hdct : Bool} {sn : List Str} {sub : List Value} {ab : Bool} {col : Option Bool} {dd : Option Addr} {k0 k1 k2 k3 k5 : Option Value} {B newId i0 IB initId : String} {rest : List Value}
theorem checkNewW (F : ExcBaseFacts B newId i0 bmB) (hB : bm.contains (.type B) = true) {Q : Unit → Shared → Prop} (hC : h.get? C = some (excClassObj nm q C N bs bm hdct sn sub ab col dd k0 k1 k2 k3 k5 newId)) (hq : Q () ⟨h, g, d, t, os⟩) :
    wpAny M A (checkBuiltinCall newId ⟨.ref C :: rest, []⟩) Q E ⟨h, g, d, t, os⟩ := by
  have cB : (Value.ref C :: bm).contains (.type B) = true := by rw [List.contains_cons, hB, Bool.or_true]
  have star := F.noStar
  simp only [checkBuiltinCall, F.newKind, F.newSplit, F.newRow]
  repeat (first | refine wpAny_loadPart_at hC ?_ | (refine wpAny_isSubtype_exc hC ?_; rw [cB]) | refine wpAny_staticBase_exc hC ?_ | refine wpAny_madeBy_exc hC ?_ | simp only [bne_self_eq_false, Bool.false_eq_true, if_false] | wp_step)
  exact hq
theorem checkInitW (F : IniF IB initId) (hI : bm.contains (.type IB) = true) {e : Addr} {oe : Obj} {Q : Unit → Shared → Prop} (hC : h.get? C = some (excClassObj nm q C N bs bm hdct sn sub ab col dd k0 k1 k2 k3 k5 newId)) (he : h.get? e = some oe) (hcls : oe.cls = .ref C) (hq : Q () ⟨h, g, d, t, os⟩) :
    wpAny M A (checkBuiltinCall initId ⟨.ref e :: rest, []⟩) Q E ⟨h, g, d, t, os⟩ := by
  have cI : (Value.ref C :: bm).contains (.type IB) = true := by rw [List.contains_cons, hI, Bool.or_true]
  have star := F.noStar
  simp only [checkBuiltinCall, F.kind, F.split, F.row]
  repeat (first | (with_reducible refine wpAny_loadPart_at he ?_; rw [hcls]) | with_reducible refine wpAny_loadPart_at hC ?_ | (with_reducible refine wpAny_isSubtype_exc hC ?_; rw [cI]) | wp_step)
  refine wpAny_onRaise ?_
  rw [show ∀ (a b : String) (n : Nat), Bind.check ⟨.positional, "*", IB, .self, [⟨"args", .varPos, false⟩]⟩ a b n (List.map (fun x => x.fst) ({ pos := Value.ref e :: rest } : Args).kw) = pure () from fun a b n => check_star_args _ _ _ _ _ _]
  exact wpAny_pure hq
theorem newW (F : ExcBaseFacts B newId i0 bmB) (hB : bm.contains (.type B) = true) (hA : bm.contains (.type "AttributeError") = false) (hN : bm.contains (.type "NameError") = false) (hC : h.get? C = some (excClassObj nm q C N bs bm hdct sn sub ab col dd k0 k1 k2 k3 k5 newId)) (hrest : rest.length ≤ sizeLine)
    (hq : R (.ok (.ret (.ref (h.objs.size + 1)))) ⟨(h.push (PySem.W.kdv_tup rest)).push (PySem.HandSPX.excO C h.objs.size), g, d, t, os⟩) : codeAny (model prog w) A (.builtin newId ⟨.ref C :: rest, []⟩) R ⟨h, g, d, t, os⟩ := by
  have hends := F.ends
  have cB : (Value.ref C :: bm).contains (.type B) = true := by rw [List.contains_cons, hB, Bool.or_true]
  have cA : (Value.ref C :: bm).contains (.type "AttributeError") = false := by rw [List.contains_cons, hA]; rfl
  have cN : (Value.ref C :: bm).contains (.type "NameError") = false := by rw [List.contains_cons, hN]; rfl
  refine codeAny_builtinAt F.entry ?_
  unfold Builtin.«BaseException.__new__»
  refine PySem.wpAt_bind ?_
  show PySem.wpAt _ _ _ (stack >>= _) _ _ _
  refine PySem.wpAt_bind (PySem.wpAt_stack fun p below => PySem.wpAt_of_wpAny ?_)
  wp_walk
  refine PySem.wpAt_of_wpAny ?_
  rw [F.owner]
  repeat (first | with_reducible refine wpAny_madeHere_exc F.canon hC ?_ | with_reducible refine wpAny_loadPart_at hC ?_ | (with_reducible refine wpAny_isSubtype_exc hC ?_; first | rw [cB] | rw [cA] | rw [cN]) | wp_step)
  show R _ _
  rw [Heap.size_push]
  exact hq
theorem typeCallW (F : ExcBaseFacts B newId i0 bmB) (hB : bm.contains (.type B) = true) (hA : bm.contains (.type "AttributeError") = false) (hN : bm.contains (.type "NameError") = false) {fI : Addr} {Q : Fin → Shared → Prop} (hC : h.get? C = some (excClassObj nm q C N bs bm hdct sn sub ab col dd k0 k1 k2 k3 k5 newId))
    (hi : PySem.W.Looks (model prog w) h (typeLookup (.ref C) "__init__") (some (.ref fI))) (hb : ∀ self, PySem.W.Looks (model prog w) h (bindSpecial (.ref fI) self) (.ref fI, [self])) (hrest : rest.length ≤ sizeLine) {kw : List (Str × Value)} {Af : Around}
    (hq : codeAny (model prog w) A (.call (.ref fI) ⟨.ref (h.objs.size + 1) :: rest, []⟩) (fun r s' => match r with | .ok (.ret v) => v = .none ∧ Q (.done (.ret (.ref (h.objs.size + 1)))) s' | .ok _ => False | .error e => E e s') ⟨(h.push (PySem.W.kdv_tup rest)).push (PySem.HandSPX.excO C h.objs.size), g, d, t, os⟩) :
    wpAny (model prog w) A (Builtin.«type.__call__» ⟨.ref C :: rest, []⟩) Q E ⟨h, g, d, t, os⟩ := by
  repeat (first | with_reducible refine wpAny_loadPart_at hC ?_ | with_reducible refine wpAny_madeBy_exc hC ?_ | wp_step)
  refine codeAny_call_builtin_code (Code.quiet_builtin _ F.quiet) (checkNewW F hB hC ?_)
  refine newW F hB hA hN hC hrest ?_
  show wpAny _ _ _ _ _ _
  have k : ∀ c o, h.get? c = some o → ((h.push (PySem.W.kdv_tup rest)).push (PySem.HandSPX.excO C h.objs.size)).get? c = some o := fun c o e => Heap.get?_push_of_some _ (Heap.get?_push_of_some _ e)
  have hC1 := k _ _ hC
  have hget : ((h.push (PySem.W.kdv_tup rest)).push (PySem.HandSPX.excO C h.objs.size)).get? (h.objs.size + 1) = some (PySem.HandSPX.excO C h.objs.size) := by heap_get
  have cC : (Value.ref C :: bm).contains (.ref C) = true := by simp
  have i1 := hi.keeps k
  have b1 := (hb (.ref (h.objs.size + 1))).keeps k
  unfold isInstance
  repeat (first | with_reducible refine wpAny_loadPart_at hget ?_ | (with_reducible refine wpAny_isSubtype_exc hC1 ?_; rw [cC]) | wp_step)
  show wpAny _ _ (typeLookup (.ref C) _) _ _ _
  refine i1.at (wpAny_holding (wpAny_bind (b1.at (wpAny_bind (wpAny_call (codeAny_mono hq fun r s' z => ?_))))))
  rcases r with e | (v | _ | _ | _) <;> first | exact z | exact z.elim | skip
  obtain ⟨rfl, z⟩ := z
  first
    | exact wpAny_pure (wpAny_pure z)
    | (wp_walk; exact z)
theorem callW (F : ExcBaseFacts B newId i0 bmB) (hB : bm.contains (.type B) = true) (hA : bm.contains (.type "AttributeError") = false) (hN : bm.contains (.type "NameError") = false) {fI : Addr} (hC : h.get? C = some (excClassObj nm q C N bs bm hdct sn sub ab col dd k0 k1 k2 k3 k5 newId))
    (hi : PySem.W.Looks (model prog w) h (typeLookup (.ref C) "__init__") (some (.ref fI))) (hb : ∀ self, PySem.W.Looks (model prog w) h (bindSpecial (.ref fI) self) (.ref fI, [self])) (hrest : rest.length ≤ sizeLine)
    (hq : codeAny (model prog w) (A.under (.builtin "type.__call__" ⟨.ref C :: rest, []⟩)) (.call (.ref fI) ⟨.ref (h.objs.size + 1) :: rest, []⟩) (PySem.W.InitBack (h.objs.size + 1) R) ⟨(h.push (PySem.W.kdv_tup rest)).push (PySem.HandSPX.excO C h.objs.size), g, d, t, os⟩) :
    codeAny (model prog w) A (.call (.ref C) ⟨rest, []⟩) R ⟨h, g, d, t, os⟩ := by
  have f1 := PySem.tc_lookup
  have f2 := PySem.tc_bind (.ref C)
  have hTy : (⟨h, g, d, t, os⟩ : Shared).TypeIs (.ref C) "type" := ⟨_, hC, rfl⟩
  refine codeAny_of_tree ?_
  show wpAny _ _ (callAny (.ref C) _) _ _ _
  repeat (any_goals (first | assumption | with_reducible refine wpAny_loadPart_at hC ?_ | wp_step))
  refine ⟨rfl, codeAny_call_builtin_at (Code.quiet_builtin _ (by decide +kernel)) entry_typeCall (wpAny_check_type_call_sub hC (typeCallW F hB hA hN hC hi hb hrest (kw := []) (Af := A) ?_))⟩
  refine codeAny_mono hq fun r s' z => ?_
  rcases r with e | (v | _ | _ | _) <;> exact z
theorem initW (F : IniF IB initId) (hI : bm.contains (.type IB) = true) {e t0 : Addr} (hC : h.get? C = some (excClassObj nm q C N bs bm hdct sn sub ab col dd k0 k1 k2 k3 k5 newId)) (he : h.get? e = some (PySem.HandSPX.excO C t0)) (hrest : rest.length ≤ sizeLine)
    (hq : ∀ h' t1, (∀ c o, c ≠ e → h.get? c = some o → h'.get? c = some o) → h'.get? e = some (PySem.HandSPX.excO C t1) → R (.ok (.ret .none)) ⟨h', g, d, t, os⟩) : codeAny (model prog w) A (.call (.builtin initId) ⟨.ref e :: rest, []⟩) R ⟨h, g, d, t, os⟩ := by
  refine codeAny_call_builtin F.init.plain F.entry (checkInitW F hI hC he rfl ?_)
  wp_walk
  refine hq _ h.objs.size (fun c o hc ho => ?_) ?_
  · rw [Heap.get?_update_other _ _ (Ne.symm hc)]
    exact Heap.get?_push_of_some _ ho
  · rw [Heap.get?_update_self _ (Heap.get?_push_of_some _ he) rfl]
    rfl
end
inductive Bs where
  | ve
  | le
  | ke
def Bs.nm : Bs → String
  | .ve => "ValueError"
  | .le => "LookupError"
  | .ke => "KeyError"
/-- whose __new__ it is -/
def Bs.nb : Bs → String
  | .ve => "ValueError"
  | _ => "LookupError"
def Bs.new : Bs → String
  | .ve => "ValueError.__new__"
  | _ => "LookupError.__new__"
def Bs.init : Bs → String
  | .ve => "ValueError.__init__"
  | .le => "LookupError.__init__"
  | .ke => "KeyError.__init__"
def Bs.tl : Bs → List Value
  | .ve => [.type "ValueError", .type "Exception", .type "BaseException", .type "object"]
  | .le => [.type "LookupError", .type "Exception", .type "BaseException", .type "object"]
  | .ke => [.type "KeyError", .type "LookupError", .type "Exception", .type "BaseException", .type "object"]
theorem Bs.f : ∀ b : Bs, ∃ i0 bmB, ExcBaseFacts b.nb b.new i0 bmB
  | .ve => ⟨_, _, F.excBase_ValueError⟩
  | .le => ⟨_, _, F.excBase_LookupError⟩
  | .ke => ⟨_, _, F.excBase_LookupError⟩
theorem Bs.i : ∀ b : Bs, IniF b.nm b.init
  | .ve => inf_of F.excBase_ValueError.toExcCallFacts
  | .le => inf_of F.excBase_LookupError.toExcCallFacts
  | .ke => inf_KE
theorem pass_KE (self : Value) : refuseLoop self "__setattr__" [.type "KeyError", .type "LookupError", .type "Exception", .type "BaseException", .type "object"] = pure () := by kernel_rfl
theorem Bs.pass : ∀ (b : Bs) (self : Value), refuseLoop self "__setattr__" b.tl = pure ()
  | .ve, self => F.store_ValueError.passes self
  | .le, self => F.store_LookupError.passes self
  | .ke, self => pass_KE self
theorem Bs.obj (b : Bs) : b.tl.contains (.type "object") = true := by cases b <;> decide +kernel
theorem Bs.hB (b : Bs) : b.tl.contains (.type b.nb) = true := by cases b <;> decide +kernel
theorem Bs.hI (b : Bs) : b.tl.contains (.type b.nm) = true := by cases b <;> decide +kernel
theorem Bs.hA (b : Bs) : b.tl.contains (.type "AttributeError") = false := by cases b <;> decide +kernel
theorem Bs.hN (b : Bs) : b.tl.contains (.type "NameError") = false := by cases b <;> decide +kernel
/-- own classes, then the built-in one's line -/
inductive Tail (b : Bs) : List Value → Prop
  | here : Tail b b.tl
  | own (C : Addr) {l : List Value} : Tail b l → Tail b (.ref C :: l)
section
variable {b : Bs} {l : List Value}
theorem Tail.pass (h : Tail b l) (self : Value) : refuseLoop self "__setattr__" l = pure () := by
  induction h with
  | here => exact b.pass self
  | own C _ ih => rw [refuseLoop_ref]; exact ih
theorem Tail.has (h : Tail b l) (X : String) : l.contains (.type X) = b.tl.contains (.type X) := by
  induction h with
  | here => rfl
  | own C _ ih => rw [List.contains_cons, ih]; rfl
theorem Tail.ne (h : Tail b l) : l.isEmpty = false := by
  cases h with
  | here => cases b <;> rfl
  | own C _ => rfl
end
section
open Builtin Builtin.ObjectAttr
variable {prog : Program} {w : World} {A : Around} {E : Value → Shared → Prop} {R : Result → Shared → Prop} {hp : Heap} {g : Array GenState} {d : Drawn} {t : Nat} {os : OsState}
/-- the first field of an exception -/
theorem osaT {K : PySem.W.Frag} {b : Bs} {name : Str} {tk : Tok} {v : Value} {x C : Addr} {fv : Array Value} {cd : ClassData} (X : K.In hp) (hx : hp.get? x = some { cls := .ref C, data := .fields fv }) (hcd : PySem.W.clsIn K C = some cd) (hm : Tail b cd.mro) (hh : cd.hasDict = true) (ha : PySem.W.findIn K (.ref C) name = some none)
    (hq : ∀ h' tk' dx, (∀ c o, c ≠ x → hp.get? c = some o → h'.get? c = some o) → hp.objs.size ≤ dx → dx ≠ x → h'.get? x = some { cls := .ref C, dict := some dx, data := .fields fv } → h'.Ns1 dx (fun y => if y = name then some v else none) → R (.ok (.ret .none)) ⟨h', g, d, tk', os⟩) :
    codeAny (model prog w) A (.call (.builtin "object.__setattr__") ⟨[.ref x, .str name tk, v], []⟩) R ⟨hp, g, d, t, os⟩ := by
  have I : PySem.W.InstAt hp x { cls := .ref C, data := .fields fv } C none := ⟨hx, rfl, rfl, trivial⟩
  have SF := F.store_object
  have hob : cd.mro.contains (.type "object") = true := (hm.has "object").trans b.obj
  have hxs : x ≠ hp.objs.size := Nat.ne_of_lt (Heap.lt_size hx)
  have isO : PySem.W.Looks (model prog w) hp (isInstance (.ref x) (.type "object")) true :=
    I.type.andThen (PySem.W.looks_mroIn X (by unfold PySem.W.mroIn; rw [hcd, Option.bind_some, if_neg (by rw [hm.ne]; decide), hob]))
  have lineL : PySem.W.Looks (model prog w) hp (mroOf (.ref C)) cd.mro := (PySem.W.looks_clsIn X hcd).andThen .now
  have noTaker : PySem.W.Looks (model prog w) hp (storeTaker? none) none := .now
  have clsL : PySem.W.Looks (model prog w) hp (classData C) cd := PySem.W.looks_clsIn X hcd
  refine codeAny_call_builtin SF.slot.plain SF.entry (@PySem.W.check_slot (model prog w) _ _ ⟨hp, g, d, t, os⟩ "object.__setattr__" "object" "__setattr__" (.ref x) [.str name tk, v] [] _ SF.kind SF.split isO (SF.args (.ref x) (.str name tk) v) ?_)
  rw [PySem.W.osa_eq, refuse_eq]
  refine wpAny_bind (wpAny_bind (I.type.at (wpAny_bind (lineL.at ?_))))
  rw [hm.pass]
  refine wpAny_pure (wpAny_bind (I.type.at (wpAny_bind ((PySem.W.looks_findIn X ha).at (wpAny_bind (noTaker.at ?_))))))
  show wpAny _ _ (storeInOwnDict (.ref x) (.ref C) (.str name tk) name v false) _ _ _
  obtain ⟨nm, bs, mro, ns, qn, hd, sn, sb, ab, col, del⟩ := cd
  dsimp only at hh
  subst hh
  unfold storeInOwnDict ownDictForStores
  repeat (first | with_reducible refine PySem.HandSPX.store_in_new ?_ ?_ | with_reducible refine wpAny_loadPart_at hx ?_ | with_reducible refine clsL.at ?_ | wp_step)
  · exact ⟨_, #[], _, (Heap.get?_update_ne _ _ _ _ hxs.symm).trans (Heap.get?_push_at rfl rfl), rfl, fun e he => absurd he (by simp), fun _ => rfl⟩
  · intro h' tk' hn' hs
    have hx1 : (hp.push { cls := .type "dict", data := .dict #[] }).get? x = some { cls := .ref C, data := .fields fv } := Heap.get?_push_of_some _ hx
    refine hq h' tk' hp.objs.size (fun c o hc ho => ?_) (Nat.le_refl _) hxs.symm ?_ hn'
    · have z1 := hs.2 c (Nat.ne_of_lt (Heap.lt_size ho))
      exact z1.trans ((Heap.get?_update_ne _ _ _ _ hc).trans (Heap.get?_push_of_some _ ho))
    · exact (hs.2 x hxs).trans (Heap.get?_update_self _ hx1 rfl)
end
/-- what the written part says of the class -/
structure OexT (K : PySem.W.Frag) (b : Bs) (C : Addr) : Prop where
  cls : ∃ nm q N bs bm sn sub ab col dd k0 k1 k2 k3 k5, K.lookup C = some (excClassObj nm q C N bs bm true sn sub ab col dd k0 k1 k2 k3 k5 b.new) ∧ Tail b bm
  sa : PySem.W.findIn K (.ref C) "__setattr__" = some (some (.builtin "object.__setattr__"))
  exC : PySem.W.subIn K (.ref C) (.type "BaseException") = some true
  tyC : PySem.W.typeIn K (.ref C) = some (.type "type")
  kC : PySem.W.keepIn K (.ref C) = true
section
variable {X : Cx} {pins : List (Addr × Obj)} {σ : L2.St} {H : Hp} {s : Shared} {a C dx : Addr} {f : Str} {y : V} {u : Value} {b : Bs} {Q : Unit → Shared → Prop} {E : Value → Shared → Prop} {A : Around}
theorem ost_newT (T : OexT X.K b C) (I : Inv X pins σ H s) (e : H a = some (exo a C none)) (hno : PySem.W.findIn X.K (.ref C) f = some none) (ry : RelV y u)
    (h : ∀ dx s', H dx = none → dx ≠ a → Inv X pins σ (upd (upd H dx (exd dx [(f, y)])) a (exo a C (some dx))) s' → Q () s') : wpAny (model X.prog X.w) A (setAttr (.ref a) f u) Q E s := by
  obtain ⟨nm, q, N, bs, bm, sn, sub, ab, col, dd, k0, k1, k2, k3, k5, hC, hbm⟩ := T.cls
  obtain ⟨t1, ho⟩ := exo_at I.hok e
  obtain ⟨hp, g, d, t, os⟩ := s
  have hcl : PySem.W.clsIn X.K C = some { name := nm, bases := bs, mro := .ref C :: bm, ns := N, qualname := q, hasDict := true, slotNames := sn, subclasses := sub, abstract := ab, collection := col, hasDel := false } := by
    unfold PySem.W.clsIn
    rw [hC] <;> rfl
  refine PySem.W.set_plain I.kIn (ox := { cls := .ref C, dict := none, data := .fields #[.ref t1, .none, .none, .none, .bool false, .none] }) (od := none) ⟨ho, rfl, rfl, trivial⟩ T.sa ?_
  refine osaT I.kIn ho hcl (.own C hbm) rfl hno fun h' tk' dx k dn dne hx hn => ?_
  have hnd : H dx = none := I.hok.fresh dn
  have nd : ∀ {c : Addr} {o : Obj}, hp.get? c = some o → c ≠ dx := fun {c o} z => Nat.ne_of_lt (Nat.lt_of_lt_of_le (Heap.lt_size z) dn)
  have na : ∀ {c : Addr}, H c = none → c ≠ a := fun {c} n z => by
    rw [z, e] at n
    exact nomatch n
  have un : Un X.fs [] H (upd (upd H dx (exd dx [(f, y)])) a (exo a C (some dx))) hp h' := by
    refine ⟨fun c o z n _ _ => k c o (na n) z, fun c o z n _ _ => ⟨o.slots, k c o (na n) z⟩, fun c o z n _ => by rw [upd_ne (na n), upd_ne (nd z)]; exact n, fun c o z _ => ?_, fun c xs z => ?_, fun c o v z => ?_, fun c ps z => ⟨#[], ?_⟩⟩
    · by_cases hc : c = a
      · exact ⟨_, by rw [hc]; exact hx⟩
      · exact ⟨o, k c o hc z⟩
    · rw [upd_ne (at_ne e z exo_tup), upd_ne (ne_of_none z hnd)]; exact z
    · rw [upd_ne (at_ne e z exo_frz), upd_ne (ne_of_none z hnd)]; exact z
    · rw [upd_ne (at_ne e z exo_tbl), upd_ne (ne_of_none z hnd), z]; simp
  refine h dx _ hnd dne (I.un (t' := tk') un fun c o z => ?_)
  by_cases hc : c = a
  · subst hc
    rw [upd_same] at z
    obtain rfl := Option.some.inj z
    exact exo_ok hx
  · rw [upd_ne hc] at z
    by_cases hd : c = dx
    · subst hd
      rw [upd_same] at z
      obtain rfl := Option.some.inj z
      exact exd_ok hn (relO_put (fs := []) ry fun _ => True.intro)
    · rw [upd_ne hd] at z
      refine (I.hok c o z).stay (fun c2 v hc2 z2 => k c2 v ?_ z2) (fun c2 z2 => ?_) fun c2 xs z2 => ?_
      · rcases hc2 with q2 | q2
        · rw [q2]; exact hc
        · exact at_ne e q2 exo_own
      · rw [upd_ne (at_ne e z2 exo_own), upd_ne (ne_of_none z2 hnd)]; exact z2
      · rw [upd_ne (at_ne e z2 exo_tup), upd_ne (ne_of_none z2 hnd)]; exact z2
/-- the built-in class's __init__: nothing of it is told -/
theorem oinitT {us : List Value} {Q : Value → Shared → Prop} (T : OexT X.K b C) (I : Inv X pins σ H s) (e : H a = some (exo a C none)) (hl : us.length ≤ sizeLine) (h : ∀ s', Inv X pins σ H s' → Q .none s') : wpAny (model X.prog X.w) A (call (.builtin b.init) (.ref a :: us)) Q E s := by
  obtain ⟨nm, q, N, bs, bm, sn, sub, ab, col, dd, k0, k1, k2, k3, k5, hC, hbm⟩ := T.cls
  obtain ⟨t1, ho⟩ := exo_at I.hok e
  obtain ⟨hp, g, d, t, os⟩ := s
  refine wpAny_call (initW b.i ((hbm.has _).trans b.hI) (I.kIn _ _ hC) ho hl fun h' t2 k hx => ?_)
  have J := I.write (t' := t) (x := a) (e := a) (o := exo a C none) (by rw [e]; exact True.intro) (.inl rfl) k ⟨_, hx⟩ (exo_ok hx)
  have eu : upd H a (exo a C none) = H := funext fun c => by
    by_cases hc : c = a
    · rw [hc, upd_same, e]
    · rw [upd_ne hc]
  exact h _ (eu ▸ J)
end
def tBaI (K : PySem.W.Frag) (b : Bs) (ta : TA) : TE := fun σ H Q => ta σ H fun vs H1 => ∃ (a C : Addr) (ws : List V), vs = .ref a :: ws ∧ ws.length ≤ 1000 ∧ OexT K b C ∧ H1 a = some (exo a C none) ∧ Q .non H1
/-- self.f = e, the first one -/
def tOsN (K : PySem.W.Frag) (f : Str) (to te : TE) : TS := fun D σ H => te σ H fun y H1 => to σ H1 fun x H2 => ∃ (b : Bs) (a C : Addr), x = .ref a ∧ OexT K b C ∧ PySem.W.findIn K (.ref C) f = some none ∧
  H2 a = some (exo a C none) ∧ ∀ dx, H2 dx = none → dx ≠ a → D.nx σ (upd (upd H2 dx (exd dx [(f, y)])) a (exo a C (some dx)))
section
variable {X : Cx} {o e : Expr} {es : List Expr} {to te : TE} {ta : TA} {f : Str} {p p' p1 p2 pos : Pos}
theorem typ_LE : typeOf (.type "LookupError") = pure (.type "type") := by kernel_rfl
theorem pe_veI {pl : Sem Bool} (hg : Gl X "ValueError") (hm : X.mg "ValueError" = none) (vV : PySem.W.findCls X.K (.type "ValueError") (.type "type") "__init__" = some (.val (.builtin "ValueError.__init__"))) (ha : PA X (e :: es) ta)
    (hc : eval (.Call (.Attribute (.Name "ValueError" p1) "__init__" p2) (e :: es) [] pos) X.env = (do
      let ov ← eval (.Name "ValueError" p1) X.env
      standAt p2.atName
      let (f, first) ← holding [ov] (getMethod ov "__init__" pl)
      callWith pos f first (backTo pos (starEach (e :: es) X.env)) (backToKw pos (keywordEach [] X.env))) := by rfl)
    (he : starEach (e :: es) X.env = (false, eval e X.env) :: starEach es X.env := by rfl) (hpl : (backTo pos (starEach es X.env)).any (·.1) = false := by rfl) :
    PE X (.Call (.Attribute (.Name "ValueError" p1) "__init__" p2) (e :: es) [] pos) (tBaI X.K .ve ta) := by
  refine ⟨fun pins s σ H Q I h => PySem.W.methodCall_KW (ld_blt I hg hm PyProof.Rows.Boot.«ValueError» ?_ (by decide) (by decide)) hc⟩
  obtain ⟨m, fr⟩ := I.fr
  refine PySem.W.method_type fr I.ok.mod.kin PySem.OEX.typ_VE (by decide +kernel) vV (by decide +kernel) ?_
  refine PyProof.Rows.callWith_method1 (thn (ha.run pos pins _ σ H _ (I.tok _) h) fun us s1 ⟨vs, H1, I1, r1, a, C, ws, ev, hl, T, ea, q⟩ => ?_) he hpl
  subst ev
  cases r1 with
  | @cons _ u0 _ ur ra rw' =>
    obtain rfl : u0 = Value.ref a := ra
    exact oinitT T I1 ea (by rw [← Paired.length rw', sizeLine_eq]; omega) fun s' J => ⟨.non, H1, J, rfl, q⟩
theorem pe_leI {pl : Sem Bool} (hg : Gl X "LookupError") (hm : X.mg "LookupError" = none) (vV : PySem.W.findCls X.K (.type "LookupError") (.type "type") "__init__" = some (.val (.builtin "LookupError.__init__"))) (ha : PA X (e :: es) ta)
    (hc : eval (.Call (.Attribute (.Name "LookupError" p1) "__init__" p2) (e :: es) [] pos) X.env = (do
      let ov ← eval (.Name "LookupError" p1) X.env
      standAt p2.atName
      let (f, first) ← holding [ov] (getMethod ov "__init__" pl)
      callWith pos f first (backTo pos (starEach (e :: es) X.env)) (backToKw pos (keywordEach [] X.env))) := by rfl)
    (he : starEach (e :: es) X.env = (false, eval e X.env) :: starEach es X.env := by rfl) (hpl : (backTo pos (starEach es X.env)).any (·.1) = false := by rfl) :
    PE X (.Call (.Attribute (.Name "LookupError" p1) "__init__" p2) (e :: es) [] pos) (tBaI X.K .le ta) := by
  refine ⟨fun pins s σ H Q I h => PySem.W.methodCall_KW (ld_blt I hg hm PyProof.Rows.Boot.«LookupError» ?_ (by decide) (by decide)) hc⟩
  obtain ⟨m, fr⟩ := I.fr
  refine PySem.W.method_type fr I.ok.mod.kin typ_LE (by decide +kernel) vV (by decide +kernel) ?_
  refine PyProof.Rows.callWith_method1 (thn (ha.run pos pins _ σ H _ (I.tok _) h) fun us s1 ⟨vs, H1, I1, r1, a, C, ws, ev, hl, T, ea, q⟩ => ?_) he hpl
  subst ev
  cases r1 with
  | @cons _ u0 _ ur ra rw' =>
    obtain rfl : u0 = Value.ref a := ra
    exact oinitT T I1 ea (by rw [← Paired.length rw', sizeLine_eq]; omega) fun s' J => ⟨.non, H1, J, rfl, q⟩
theorem typ_KE : typeOf (.type "KeyError") = pure (.type "type") := by kernel_rfl
theorem pe_keI {pl : Sem Bool} (hg : Gl X "KeyError") (hm : X.mg "KeyError" = none) (vV : PySem.W.findCls X.K (.type "KeyError") (.type "type") "__init__" = some (.val (.builtin "KeyError.__init__"))) (ha : PA X (e :: es) ta)
    (hc : eval (.Call (.Attribute (.Name "KeyError" p1) "__init__" p2) (e :: es) [] pos) X.env = (do
      let ov ← eval (.Name "KeyError" p1) X.env
      standAt p2.atName
      let (f, first) ← holding [ov] (getMethod ov "__init__" pl)
      callWith pos f first (backTo pos (starEach (e :: es) X.env)) (backToKw pos (keywordEach [] X.env))) := by rfl)
    (he : starEach (e :: es) X.env = (false, eval e X.env) :: starEach es X.env := by rfl) (hpl : (backTo pos (starEach es X.env)).any (·.1) = false := by rfl) :
    PE X (.Call (.Attribute (.Name "KeyError" p1) "__init__" p2) (e :: es) [] pos) (tBaI X.K .ke ta) := by
  refine ⟨fun pins s σ H Q I h => PySem.W.methodCall_KW (ld_blt I hg hm PyProof.Rows.Boot.«KeyError» ?_ (by decide) (by decide)) hc⟩
  obtain ⟨m, fr⟩ := I.fr
  refine PySem.W.method_type fr I.ok.mod.kin typ_KE (by decide +kernel) vV (by decide +kernel) ?_
  refine PyProof.Rows.callWith_method1 (thn (ha.run pos pins _ σ H _ (I.tok _) h) fun us s1 ⟨vs, H1, I1, r1, a, C, ws, ev, hl, T, ea, q⟩ => ?_) he hpl
  subst ev
  cases r1 with
  | @cons _ u0 _ ur ra rw' =>
    obtain rfl : u0 = Value.ref a := ra
    exact oinitT T I1 ea (by rw [← Paired.length rw', sizeLine_eq]; omega) fun s' J => ⟨.non, H1, J, rfl, q⟩
theorem ps_osN (ho : PE X o to) (he : PE X e te) (hs : swapsWith e (some (.Attribute o f p')) pos.line X.env = pure false := by rfl) : PS X (.Assign [.Attribute o f p'] e pos) (tOsN X.K f to te) := by
  refine ⟨fun pins s σ H D I h => plainObj_wpAny_Assign_Attribute (thn (he.run pins s σ H _ I h) fun v s1 ⟨y, H1, I1, r1, q1⟩ => thn (ho.run pins s1 σ H1 _ I1 q1) fun u s2 ⟨x, H2, I2, r2, b, a, C, ex, T, hno, ea, q⟩ => ?_) hs⟩
  subst ex
  obtain rfl : u = Value.ref a := r2
  exact ost_newT T I2 ea hno r1 fun dx s' n ne J => ⟨σ, _, J, q dx n ne⟩
/-- C(e, ..) that is raised -/
theorem pmk_oexT {b : Bs} {CX : CXT} {x : Str} {C fI : Addr} {k : Nat} {fd : FuncData} {ps : List Str} {sp : Sp} {ds : List Value} {dvs : List V} (T : OexT X.K b C) (iC : PySem.W.findIn X.K (.ref C) "__init__" = some (some (.ref fI))) (tI : PySem.W.typeIn X.K (.ref fI) = some (.type "function"))
    (F1 : FnOk X.prog X.w X.K X.mg X.base CX k fI fd ps sp) (hr : Room (k + 1) X.A) (hb : Binds X.K fd ps ds) (hd : Vals dvs ds) (hx : Passes CX X (fun _ _ _ => False)) (hg : Gl X x) (hm : X.mg x = some (.ref C)) (ha : PA X (e :: es) ta)
    (hdb : (x == ("__debug__" : Str)) = false := by decide) (he : starEach (e :: es) X.env = (false, eval e X.env) :: starEach es X.env := by rfl) (hpl : (backTo pos (starEach es X.env)).any (·.1) = false := by rfl) :
    PMk X (.Call (.Name x p) (e :: es) [] pos) (tMkO C sp dvs ta) := by
  intro pins s σ H Q I h
  obtain ⟨nm, q, N, bs, bm, sn, sub, ab, col, dd, k0, k1, k2, k3, k5, hC, hbm⟩ := T.cls
  refine wpAny_Call_Name_kw (ld_glob I hg hm ?_ hdb)
  refine PySem.W.callWith_K (h₀ := X.base) I.ok.mod.kin T.kC (thn (ha.run pos pins s σ H _ I h) fun us s1 ⟨vs, H1, I1, r1, hz, q1⟩ => ⟨I1.kIn, ?_⟩) he hpl
  show wpAny _ _ (call (.ref C) us) _ _ _
  obtain ⟨hp, g, dr, tk, os⟩ := s1
  have hsz : hp.objs.size ≤ hp.objs.size + 1 := Nat.le_succ _
  have hq := q1 (hp.objs.size + 1) (I1.hok.fresh hsz)
  have hget : ((hp.push (PySem.W.kdv_tup us)).push (PySem.HandSPX.excO C hp.objs.size)).get? (hp.objs.size + 1) = some (PySem.HandSPX.excO C hp.objs.size) := by heap_get
  have kk : ∀ c o, hp.get? c = some o → ((hp.push (PySem.W.kdv_tup us)).push (PySem.HandSPX.excO C hp.objs.size)).get? c = some o := fun c o z => Heap.get?_push_of_some _ (Heap.get?_push_of_some _ z)
  have I2 : Inv X pins σ (upd H1 (hp.objs.size + 1) (exo (hp.objs.size + 1) C none)) ⟨(hp.push (PySem.W.kdv_tup us)).push (PySem.HandSPX.excO C hp.objs.size), g, dr, tk, os⟩ :=
    I1.laid (t' := tk) (a := hp.objs.size + 1) (o := exo (hp.objs.size + 1) C none) (h' := (hp.push (PySem.W.kdv_tup us)).push (PySem.HandSPX.excO C hp.objs.size)) kk hsz (exo_ok hget)
  have r2 : Vals (V.ref (hp.objs.size + 1) :: (vs ++ dvs)) (Value.ref (hp.objs.size + 1) :: (us ++ ds)) := .cons rfl (r1.append hd)
  have hl : (Value.ref (hp.objs.size + 1) :: us ++ ds).length = ps.length := r2.length.symm.trans (F1.len _ _ _ _ hq)
  have hus : us.length ≤ sizeLine := by rw [← Paired.length r1, sizeLine_eq]; omega
  obtain ⟨i0, bmB, bf⟩ := b.f
  refine wpAny_call (callW bf ((hbm.has _).trans b.hB) ((hbm.has _).trans b.hA) ((hbm.has _).trans b.hN) (I1.kIn _ _ hC) (PySem.W.looks_findIn I1.kIn iC) (fun self => PySem.W.bind_fn I1.kIn self tI) hus
    (codeAny_mono (F1.run _ X.stack _ _ ⟨Value.ref (hp.objs.size + 1) :: us, []⟩ (Value.ref (hp.objs.size + 1) :: (us ++ ds)) _ _ (fun _ _ _ => False) (hr.make C us []) (I2.env0.make C us []) (hb _ (Value.ref (hp.objs.size + 1) :: us) I2.kIn hl) r2 hq) fun r s' hq' => ?_))
  match r, hq' with
  | .error er, hq' => exact hx pins σ _ _ er s' I2 hq'
  | .ok (.ret u), hq' =>
    obtain ⟨v, H2, os2, bare2, un2, hok2, rv, ev, d, fs, ea, ed, hd1, q2⟩ := hq'
    subst ev
    obtain ⟨h2, g2, d2, t2, os'⟩ := s'
    exact ⟨rv, mk_end (raises_own T.exC T.tyC) I1 hsz kk un2 hok2 os2 bare2 ea ed hd1 q2⟩
end
/-- Base.__init__(self, text) of an own family -/
def spGT (K : PySem.W.Frag) (b : Bs) : Sp := fun vs H Q _ => ∃ (a C : Addr) (x : V), vs = [.ref a, x] ∧ OexT K b C ∧ H a = some (exo a C none) ∧ Q .non H
end Bk

namespace Bk
open PySem PySem.Spec PyProof.Rows L2
/-! ## 21. methods of own classes: what is raised is wished for at the caller's slots -/
structure CalM (P : Program) (w : World) (K : PySem.W.Frag) (mg : Str → Option Value) (base : Heap) (CX : CXT) (k : Nat) (C : Addr) (m : Str) (sp : Sp) : Prop where
  ex : ∃ (f : Addr) (fd : FuncData) (ps : List Str), Meth K C m f ∧ FnOk P w K mg base CX k f fd ps sp ∧ Binds K fd ps []
structure CalMK (P : Program) (w : World) (K : PySem.W.Frag) (mg : Str → Option Value) (base : Heap) (CX : CXT) (k n : Nat) (ks : List Str) (C : Addr) (m : Str) (sp : Sp) (gV : List V → List V → List V) : Prop where
  ex : ∃ (f : Addr) (fd : FuncData) (ps : List Str) (g : List Value → List Value → List Value), Meth K C m f ∧ FnOk P w K mg base CX k f fd ps sp ∧ KBn K fd ps (n + 1) ks g gV
/-- C(..) of a class whose objects are plain -/
structure CalC (P : Program) (w : World) (K : PySem.W.Frag) (mg : Str → Option Value) (base : Heap) (CX : CXT) (k : Nat) (C : Addr) (x : Str) (sp : Sp) : Prop where
  ex : ∃ (f : Addr) (fd : FuncData) (ps : List Str), Mk K C f ∧ FnOk P w K mg base CX k f fd ps sp ∧ Binds K fd ps [] ∧ mg x = some (.ref C)
def tMeS (C : Addr) (m : Str) (sp : Sp) (E : L2.St → XK) (ta : TE) (t : TA) : TE := fun σ H Q => ta σ H fun x H1 => ∃ a dx fs, x = .ref a ∧ H1 a = some (.ins C dx fs) ∧ fs.lookup m = none ∧ t σ H1 fun vs H2 => sp (x :: vs) H2 Q (E σ)
def tMeK (C : Addr) (m : Str) (j : Nat) (sp : Sp) (gV : List V → List V → List V) (E : L2.St → XK) (ta : TE) (tk : TA) : TE := fun σ H Q => ta σ H fun x H1 => ∃ a dx fs, x = .ref a ∧ H1 a = some (.ins C dx fs) ∧ fs.lookup m = none ∧ tk σ H1 fun zs H2 => zs.length = j ∧ sp (gV [x] zs) H2 Q (E σ)
def tMkS (C : Addr) (sp : Sp) (E : L2.St → XK) (t : TA) : TE := fun σ H Q => t σ H fun vs H1 => ∀ x dx, H1 x = none → H1 dx = none → dx ≠ x →
  sp (.ref x :: vs) (upd (upd H1 dx (.own x)) x (.ins C dx [])) (fun v H2 => v = .non ∧ Q (.ref x) H2) (E σ)
section
variable {X : Cx} {CX : CXT} {k j n : Nat} {ks : List Str} {f C : Addr} {fd : FuncData} {ps : List Str} {sp : Sp} {E : L2.St → XK} {x m : Str} {p pos apos : Pos} {e o : Expr} {es : List Expr} {kws : List Keyword} {ta : TE} {t tk : TA} {W : WX} {gV : List V → List V → List V} {g : List Value → List Value → List Value}
theorem ps0 : ∀ σ, PassesAt CX0 X σ ((fun _ => E0) σ) := fun _ _ _ _ _ _ _ h => h.elim
theorem psY : ∀ σ, PassesAt (L2.CX X.prog X.w) X σ ((fun _ => noE) σ) := fun σ pins H s e s' I h => pass_no (X := X) pins σ H s e s' I h
theorem psX {E : XK} (tk : Takes X (fun cls d _ H => E cls d H)) : ∀ σ, PassesAt (L2.CX X.prog X.w) X σ ((fun _ => E) σ) := fun σ pins H s e s' I h => passes_call tk (fun _ _ _ _ z => z) pins σ H s e s' I h
theorem psT (tk : Takes X W) : ∀ σ, PassesAt (L2.CX X.prog X.w) X σ (WE W σ) := passAt tk
/-- o.m(e, ..) -/
theorem pe_mth {pl : Sem Bool} (he : PE X o ta) (cl : Cls X.K C) (c : CalM X.prog X.w X.K X.mg X.base CX k C m sp) (hr : Room j X.A) (hk : k ≤ j) (hx : ∀ σ, PassesAt CX X σ (E σ)) (ha : PA X (e :: es) t)
    (hst : starEach (e :: es) X.env = (false, eval e X.env) :: starEach es X.env := by rfl) (hpl : (backTo pos (starEach es X.env)).any (·.1) = false := by rfl)
    (ht : eval (.Call (.Attribute o m apos) (e :: es) [] pos) X.env = (do
      let ov ← eval o X.env
      standAt apos.atName
      let (f, first) ← holding [ov] (getMethod ov m pl)
      callWith pos f first (backTo pos (starEach (e :: es) X.env)) (backToKw pos (keywordEach [] X.env))) := by rfl) :
    PE X (.Call (.Attribute o m apos) (e :: es) [] pos) (tMeS C m sp E ta t) := by
  obtain ⟨f, fd, ps, hm, F, hb⟩ := c.ex
  refine ⟨fun pins s σ H Q I h => ?_⟩
  refine PySem.W.methodCall_KW (pl := pl) (thn (he.run pins s σ H _ I h) fun u s1 ⟨x, H1, I1, rx, a, dx, fs, ex, ea, l, q⟩ => ?_) ht
  subst ex
  obtain rfl : u = Value.ref a := rx
  refine getmeth_ok I1 ea cl hm l ?_
  refine PySem.W.callWith_K (first := [.ref a]) (h₀ := X.base) I.ok.mod.kin hm.kp (thn (ha.run pos pins s1 σ H1 _ I1 q) fun us s2 ⟨vs, H2, I2, r, q2⟩ => ⟨I2.kIn, ?_⟩) hst hpl
  exact run_fnS (us := .ref a :: us) (vs := .ref a :: vs) F (hr.mono hk) hb (hx σ) I2 (.cons rfl r) q2
/-- o.m() -/
theorem pe_mth0 {pl : Sem Bool} (he : PE X o ta) (cl : Cls X.K C) (c : CalM X.prog X.w X.K X.mg X.base CX k C m sp) (hr : Room j X.A) (hk : k ≤ j) (hx : ∀ σ, PassesAt CX X σ (E σ))
    (ht : eval (.Call (.Attribute o m apos) [] [] pos) X.env = (do
      let ov ← eval o X.env
      standAt apos.atName
      let (f, first) ← holding [ov] (getMethod ov m pl)
      callWith pos f first (backTo pos (starEach [] X.env)) (backToKw pos (keywordEach [] X.env))) := by rfl) :
    PE X (.Call (.Attribute o m apos) [] [] pos) (tMeS C m sp E ta tNil) := by
  obtain ⟨f, fd, ps, hm, F, hb⟩ := c.ex
  refine ⟨fun pins s σ H Q I h => ?_⟩
  refine PySem.W.methodCall_KW (pl := pl) (thn (he.run pins s σ H _ I h) fun u s1 ⟨x, H1, I1, rx, a, dx, fs, ex, ea, l, q⟩ => ?_) ht
  subst ex
  obtain rfl : u = Value.ref a := rx
  refine getmeth_ok I1 ea cl hm l ?_
  exact PySem.W.callWith_K0 (first := [.ref a]) I1.kIn hm.kp (run_fnS (us := [.ref a]) (vs := [.ref a]) F (hr.mono hk) hb (hx σ) I1 (.cons rfl .nil) q)
theorem run_fnNS {pins : List (Addr × Obj)} {σ : L2.St} {H : Hp} {s : Shared} {Q : VK} {us ws : List Value} {vs zs : List V} (F : FnOk X.prog X.w X.K X.mg X.base CX k f fd ps sp) (hr : Room k X.A) (hb : KBn X.K fd ps n ks g gV) (hx : PassesAt CX X σ (E σ))
    (I : Inv X pins σ H s) (r : Vals vs us) (rz : Vals zs ws) (l1 : vs.length = n) (l2 : zs.length = ks.length) (h : sp (gV vs zs) H Q (E σ)) : wpAny (model X.prog X.w) X.A (call (.ref f) us (ks.zip ws)) (EP X pins σ Q) X.xe s := by
  refine wpAny_call (codeAny_mono (F.run X.A X.stack s H ⟨us, ks.zip ws⟩ (g us ws) (gV vs zs) Q (E σ) hr I.env0 (hb.to s us ws I.kIn (r.length.symm.trans l1) (rz.length.symm.trans l2)) (hb.rel r rz) h) fun rr s3 z => ?_)
  match rr, z with
  | .error u, z => exact hx pins H s u s3 I z
  | .ok (.ret _), z => exact I.after z
/-- o.m(k = e, ..) -/
theorem pe_mthK {pl : Sem Bool} (he : PE X o ta) (cl : Cls X.K C) (c : CalMK X.prog X.w X.K X.mg X.base CX k 0 ks C m sp gV) (hr : Room j X.A) (hk : k ≤ j) (hx : ∀ σ, PassesAt CX X σ (E σ)) (hkw : PK X kws tk)
    (hall : (backToKw pos (keywordEach kws X.env)).all (·.1.isSome) = true := by rfl) (hks : (backToKw pos (keywordEach kws X.env)).filterMap (·.1) = ks := by rfl)
    (hpl : ((backTo pos (starEach [] X.env)).any (·.1) || (backToKw pos (keywordEach kws X.env)).any (·.1.isNone)) = false := by rfl)
    (ht : eval (.Call (.Attribute o m apos) [] kws pos) X.env = (do
      let ov ← eval o X.env
      standAt apos.atName
      let (f, first) ← holding [ov] (getMethod ov m pl)
      callWith pos f first (backTo pos (starEach [] X.env)) (backToKw pos (keywordEach kws X.env))) := by rfl) :
    PE X (.Call (.Attribute o m apos) [] kws pos) (tMeK C m ks.length sp gV E ta tk) := by
  obtain ⟨f, fd, ps, g, hm, F, hb⟩ := c.ex
  refine ⟨fun pins s σ H Q I h => ?_⟩
  refine PySem.W.methodCall_KW (pl := pl) (thn (he.run pins s σ H _ I h) fun u s1 ⟨x, H1, I1, rx, a, dx, fs, ex, ea, l, q⟩ => ?_) ht
  subst ex
  obtain rfl : u = Value.ref a := rx
  refine getmeth_ok I1 ea cl hm l ?_
  refine PySem.W.callWith_KW0 (first := [.ref a]) (h₀ := X.base) I.ok.mod.kin hm.kp hall ?_ hpl
  refine thn (hkw.run pos pins s1 σ H1 _ I1 q) fun ws s2 ⟨zs, H2, I2, rz, l2, q2⟩ => ⟨I2.kIn, ?_⟩
  rw [hks]
  exact run_fnNS (us := [.ref a]) (vs := [.ref a]) F (hr.mono hk) hb (hx σ) I2 (.cons rfl .nil) rz rfl l2 q2
theorem run_mkS {pins : List (Addr × Obj)} {σ : L2.St} {H : Hp} {s : Shared} {Q : VK} {us : List Value} {vs : List V} (M : Mk X.K C f) (F : FnOk X.prog X.w X.K X.mg X.base CX k f fd ps sp) (hr : Room (k + 1) X.A) (hb : Binds X.K fd ps [])
    (hx : PassesAt CX X σ (E σ)) (I : Inv X pins σ H s) (r : Vals vs us)
    (h : ∀ x dx, H x = none → H dx = none → dx ≠ x → sp (.ref x :: vs) (upd (upd H dx (.own x)) x (.ins C dx [])) (fun v H2 => v = .non ∧ Q (.ref x) H2) (E σ)) :
    wpAny (model X.prog X.w) X.A (call (.ref C) us) (EP X pins σ Q) X.xe s := by
  have hq := h (s.heap.objs.size + 1) s.heap.objs.size (I.hok.fresh (Nat.le_succ _)) (I.hok.fresh (Nat.le_refl _)) (Nat.ne_of_lt (Nat.lt_succ_self _))
  have I2 := Inv.made (C := C) I
  have r2 : Vals (V.ref (s.heap.objs.size + 1) :: vs) (Value.ref (s.heap.objs.size + 1) :: us) := .cons rfl r
  have hl : (Value.ref (s.heap.objs.size + 1) :: us).length = ps.length := by
    have e := r2.length
    rw [F.len _ _ _ _ hq] at e
    exact e.symm
  have bb := hb { s with heap := _ } (Value.ref (s.heap.objs.size + 1) :: us) I2.kIn (by rw [List.append_nil]; exact hl)
  rw [List.append_nil] at bb
  refine wpAny_call (make_map (f := f) I.kIn M.makes M.init (beq_iff_eq.mp M.fn) (codeAny_mono (F.run _ X.stack _ _ ⟨Value.ref (s.heap.objs.size + 1) :: us, []⟩ (Value.ref (s.heap.objs.size + 1) :: us) _ _ (E σ) (hr.make C us [])
    (I2.env0.make C us []) bb r2 hq) fun r s' hq' => ?_))
  cases r with
  | error e => exact hx pins _ _ e s' I2 hq'
  | ok fl =>
    cases fl with
    | ret u =>
      obtain ⟨v, H', I3, rv, ev, q3⟩ := I2.after hq'
      subst ev
      exact ⟨rv, ⟨V.ref (s.heap.objs.size + 1), H', I3, rfl, q3⟩⟩
    | next => exact False.elim hq'
    | brk => exact False.elim hq'
    | cont => exact False.elim hq'
theorem pe_mk (c : CalC X.prog X.w X.K X.mg X.base CX k C x sp) (hr : Room j X.A) (hk : k + 1 ≤ j) (hg : Gl X x) (hx : ∀ σ, PassesAt CX X σ (E σ)) (ha : PA X (e :: es) t)
    (hdb : (x == ("__debug__" : Str)) = false := by decide) (he : starEach (e :: es) X.env = (false, eval e X.env) :: starEach es X.env := by rfl) (hpl : (backTo pos (starEach es X.env)).any (·.1) = false := by rfl) :
    PE X (.Call (.Name x p) (e :: es) [] pos) (tMkS C sp E t) := by
  obtain ⟨f, fd, ps, M, F, hb, hm⟩ := c.ex
  refine ⟨fun pins s σ H Q I h => ?_⟩
  refine wpAny_Call_Name_kw (ld_glob I hg hm ?_ hdb)
  refine PySem.W.callWith_K (h₀ := X.base) I.ok.mod.kin M.kp (thn (ha.run pos pins s σ H _ I h) fun us s1 ⟨vs, H1, I1, r, q⟩ => ⟨I1.kIn, ?_⟩) he hpl
  exact run_mkS M F (hr.mono hk) hb (hx σ) I1 r q
theorem pe_mk0 (c : CalC X.prog X.w X.K X.mg X.base CX k C x sp) (hr : Room j X.A) (hk : k + 1 ≤ j) (hg : Gl X x) (hx : ∀ σ, PassesAt CX X σ (E σ))
    (hdb : (x == ("__debug__" : Str)) = false := by decide) : PE X (.Call (.Name x p) [] [] pos) (tMkS C sp E tNil) := by
  obtain ⟨f, fd, ps, M, F, hb, hm⟩ := c.ex
  refine ⟨fun pins s σ H Q I h => ?_⟩
  refine wpAny_Call_Name_kw (ld_glob I hg hm ?_ hdb)
  exact PySem.W.callWith_K0 I.kIn M.kp (run_mkS (us := []) (vs := []) M F (hr.mono hk) hb (hx σ) I .nil h)
/-- repr and the like in a guarded def -/
theorem run_fnGS {pins : List (Addr × Obj)} {σ : L2.St} {H : Hp} : True := trivial
end
section
variable {σ : L2.St} {H : Hp} {Q : VK} {C a dx : Addr} {m : Str} {sp : Sp} {E : L2.St → XK} {ta : TE} {t tk : TA} {fs : List (Str × V)}
theorem r_mth (q : ta σ H fun x H1 => ∃ a dx fs, x = .ref a ∧ H1 a = some (.ins C dx fs) ∧ fs.lookup m = none ∧ t σ H1 fun vs H2 => sp (x :: vs) H2 Q (E σ)) : tMeS C m sp E ta t σ H Q := q
theorem r_mthK {j : Nat} {gV : List V → List V → List V} (q : ta σ H fun x H1 => ∃ a dx fs, x = .ref a ∧ H1 a = some (.ins C dx fs) ∧ fs.lookup m = none ∧ tk σ H1 fun zs H2 => zs.length = j ∧ sp (gV [x] zs) H2 Q (E σ)) : tMeK C m j sp gV E ta tk σ H Q := q
theorem r_mkS (q : t σ H fun vs H1 => ∀ x dx, H1 x = none → H1 dx = none → dx ≠ x → sp (.ref x :: vs) (upd (upd H1 dx (.own x)) x (.ins C dx [])) (fun v H2 => v = .non ∧ Q (.ref x) H2) (E σ)) : tMkS C sp E t σ H Q := q
theorem r_fld {K : PySem.W.Frag} {f : Str} {v : V} (q : ta σ H fun x H1 => ∃ a C dx fs v, x = .ref a ∧ H1 a = some (.ins C dx fs) ∧ Cls K C ∧ NoAttr K C f ∧ fs.lookup f = some v ∧ Q v H1) : tFld K ta f σ H Q := q
end
/-! ## 22. refusals whose field has another name -/
def RefuseN (nm : Str) (C : Addr) (v : V) (H : Hp) (E : XK) : Prop := ∀ d H', H d = none → Same H H' → H' d = some (.xd [(nm, v)]) → E (.ref C) (some d) H'
theorem RefuseN.on {nm : Str} {C : Addr} {v : V} {H H' : Hp} {E : XK} (r : RefuseN nm C v H E) (s : Same H H') : RefuseN nm C v H' E := fun d H2 hd s2 e => r d H2 (s.free hd) (s.trans s2) e
def spInitN (nm : Str) (C : Addr) : Sp := fun vs H Q _ => ∃ (a : Addr) (x : V), vs = [.ref a, x] ∧ H a = some (exo a C none) ∧ ∀ dx, H dx = none → dx ≠ a → Q .non (upd (upd H dx (exd dx [(nm, x)])) a (exo a C (some dx)))
theorem r_mkN {nm : Str} {C : Addr} {v : V} {H : Hp} {E : XK} (z : RefuseN nm C v H E) : [v].length ≤ 1000 ∧ ∀ a, H a = none → spInitN nm C (.ref a :: ([v] ++ [])) (upd H a (exo a C none))
    (fun u H2 => u = .non ∧ ∃ (d : Addr) (fs : List (Str × V)), H2 a = some (exo a C (some d)) ∧ H2 d = some (exd d fs) ∧ H d = none ∧ E (.ref C) (some d) (upd (del H2 a) d (.xd fs))) (fun _ _ _ => False) := by
  refine ⟨Nat.le_of_ble_eq_true rfl, fun a ha => ⟨a, v, rfl, upd_same, fun dx hd ne => ⟨rfl, dx, [(nm, v)], upd_same, ?_, ?_, ?_⟩⟩⟩
  · rw [upd_ne ne, upd_same]
  · rw [upd_ne ne] at hd
    exact hd
  · rw [upd_ne ne] at hd
    refine z dx _ hd (fun b o e => ?_) upd_same
    have h1 : b ≠ a := ne_of_none e ha
    have h2 : b ≠ dx := ne_of_none e hd
    rw [upd_ne h2]
    show del _ a b = some o
    unfold del
    rw [if_neg h1, upd_ne h1, upd_ne h2, upd_ne h1]
    exact e
structure ExcN (K : PySem.W.Frag) (nm : Str) (C f : Addr) : Prop where
  ox : OexC K C
  i : PySem.W.findIn K (.ref C) "__init__" = some (some (.ref f))
  t : PySem.W.typeIn K (.ref f) = some (.type "function")
  nf : PySem.W.findIn K (.ref C) nm = some none
  xf : XfC K C
/-! ## 23. a comprehension each turn of which lays a new object, all of them unlike -/
section
variable {J : It} {n : Nat} {G : Hp → Prop} {Y : Nat → Hp → V → Hp → Prop} {g : TG} {te : TE} {vs : List Nat} {σ : L2.St} {H : Hp} {D : Addr} {Q : VK}
theorem lc_new (w : Walk J n G Y) (c : Nat → HO) (hD : H D = none) (hn : n ≤ 10000) (hG : ∀ H', Same H H' → G H')
    (hs : ∀ i x H1 H2 (Q' : VK) (R' : Hp → Prop), i < n → Same H H1 → Y i H1 x H2 → (∀ t H3, H1 t = none → Same H1 H3 → H3 t = some (c i) → Q' (.ref t) H3) →
      g x (wipe σ vs) H2 fun τ H3 => wipe τ vs = wipe σ vs ∧ tYes τ H3 fun b H4 => if b = true then te τ H4 Q' else R' H4)
    (q : ∀ H' (ts : List Addr), Same H H' → H' D = some (.lst (ts.map V.ref)) → ts.length = n → (∀ k t, ts[k]? = some t → H' t = some (c k)) → (D :: ts).Nodup → (∀ t ∈ ts, H t = none) → Q (.ref D) H') :
    ∃ W : Nat → Nat → Hp → Prop, (∃ m, W 0 m (upd H D (.lst []))) ∧ ∀ i m H, W i m H →
      (J.stop i H ∧ Q (.ref D) H) ∨ (J.go i H ∧ ∃ Nx : Hp → Prop, (∀ H', Nx H' → ∃ m', m' < m ∧ W (i + 1) m' H') ∧ ∀ x H', J.yld i H x H' → g x (wipe σ vs) H' fun σ2 H2 => wipe σ2 vs = wipe σ vs ∧ tYes σ2 H2 fun b H3 =>
        if b = true then te σ2 H3 fun y H4 => ∃ acc, H4 D = some (.lst acc) ∧ acc.length < sizeLine ∧ Nx (upd H4 D (.lst (acc ++ [y]))) else Nx H3) := by
  refine lc_it w (fun i G => Same H G ∧ ∃ ts : List Addr, G D = some (.lst (ts.map V.ref)) ∧ ts.length = i ∧ (∀ k t, ts[k]? = some t → G t = some (c k)) ∧ (D :: ts).Nodup ∧ ∀ t ∈ ts, H t = none)
    ⟨same_upd hD, [], upd_same, rfl, (fun _ _ z => nomatch z), (by simp), (fun _ z => nomatch z)⟩ (fun i G _ z => hG G z.1) (fun i x H1 H2 hi ⟨sm, ts, e, l, all, nd, fr⟩ y => ?_) fun G ⟨sm, ts, e, l, all, nd, fr⟩ => q G ts sm e l all nd fr
  refine hs i x H1 H2 _ _ hi sm y fun t H3 nt s3 et => ?_
  have tD : t ≠ D := fun z => by rw [z, e] at nt; exact nomatch nt
  have tts : t ∉ ts := fun z => by
    obtain ⟨k, hk⟩ := List.getElem?_of_mem z
    rw [all k t hk] at nt
    exact nomatch nt
  obtain ⟨nD, nts⟩ := List.nodup_cons.mp nd
  refine ⟨_, s3 _ _ e, by rw [List.length_map, l]; exact Nat.lt_of_lt_of_le hi (Nat.le_trans hn (by decide)), sameBut (sm.trans s3) hD, ts ++ [t], ?_, by rw [List.length_append, l]; rfl, fun k u hk => ?_, ?_, fun u hu => ?_⟩
  · rw [upd_same, List.map_append]
    rfl
  · by_cases hk2 : k < ts.length
    · rw [List.getElem?_append_left hk2] at hk
      have z := s3 _ _ (all k u hk)
      have nu : u ≠ D := fun q => by subst q; exact nD (List.mem_of_getElem? hk)
      rw [upd_ne nu]
      exact z
    · have e3 : k = i := by
        have := (List.getElem?_eq_some_iff.mp hk).1
        rw [List.length_append] at this
        have h1 : [t].length = 1 := rfl
        omega
      subst e3
      rw [List.getElem?_append_right (by omega), l, Nat.sub_self] at hk
      obtain rfl := Option.some.inj hk
      rw [upd_ne tD]
      exact et
  · refine List.nodup_cons.mpr ⟨fun z => ?_, List.nodup_append.mpr ⟨nts, by simp, fun a ha b hb q => ?_⟩⟩
    · rcases List.mem_append.mp z with z | z
      · exact nD z
      · exact tD (List.mem_singleton.mp z).symm
    · rw [List.mem_singleton.mp hb] at q
      exact tts (q ▸ ha)
  · rcases List.mem_append.mp hu with z | z
    · exact fr u z
    · rw [List.mem_singleton.mp z]
      exact sm.free nt
end
/-! ## 24. a list of lists -/
/-- at l: a list of the lists at rows, which hold ws -/
structure LL (H : Hp) (l : Addr) (rows : List Addr) (ws : List (List V)) : Prop where
  at_ : H l = some (.lst (rows.map V.ref))
  len : rows.length = ws.length
  row : ∀ (k : Nat) (r : Addr) (w : List V), rows[k]? = some r → ws[k]? = some w → H r = some (.lst w)
  nd : (l :: rows).Nodup
theorem LL.keep {H H' : Hp} {l : Addr} {rows : List Addr} {ws : List (List V)} (h : LL H l rows ws) (k : ∀ b ∈ l :: rows, H' b = H b) : LL H' l rows ws :=
  ⟨by rw [k l List.mem_cons_self]; exact h.at_, h.len, fun i r w h1 h2 => by rw [k r (List.mem_cons_of_mem _ (List.mem_of_getElem? h1))]; exact h.row i r w h1 h2, h.nd⟩
theorem LL.same {H H' : Hp} {l : Addr} {rows : List Addr} {ws : List (List V)} (h : LL H l rows ws) (s : Same H H') : LL H' l rows ws :=
  ⟨s _ _ h.at_, h.len, fun i r w h1 h2 => s _ _ (h.row i r w h1 h2), h.nd⟩
/-- the row at k grows -/
theorem LL.put {H H' : Hp} {l r : Addr} {rows : List Addr} {ws : List (List V)} {k : Nat} {w w' : List V} (h : LL H l rows ws) (hr : rows[k]? = some r) (hw : ws[k]? = some w) (b : But r H H') (e : H' r = some (.lst w')) : LL H' l rows (ws.set k w') := by
  obtain ⟨nl, nr⟩ := List.nodup_cons.mp h.nd
  have lr : l ≠ r := fun q => nl (q ▸ List.mem_of_getElem? hr)
  refine ⟨b _ _ lr h.at_, by rw [List.length_set]; exact h.len, fun i r2 w2 h1 h2 => ?_, h.nd⟩
  by_cases q : i = k
  · subst q
    rw [hr] at h1
    obtain rfl := Option.some.inj h1
    rw [List.getElem?_set_self (List.getElem?_eq_some_iff.mp hw).1] at h2
    obtain rfl := Option.some.inj h2
    exact e
  · rw [List.getElem?_set_ne (fun z => q z.symm)] at h2
    refine b _ _ (fun z => ?_) (h.row i r2 w2 h1 h2)
    subst z
    exact q ((List.getElem?_inj (List.getElem?_eq_some_iff.mp h1).1 nr).mp (h1.trans hr.symm))
end Bk

namespace Bk
open PySem PySem.Spec PyProof.Rows L2
/-! ## 25. the text of things, dicts among them -/
mutual
/-- v is the thing d; b: a dict may be in it, and each list stands where no dict of modules does -/
inductive Dq (b : Bool) (K : PySem.W.Frag) (H : Hp) : V → PyData → Prop
  | non : Dq b K H .non .none
  | bl (c : Bool) : Dq b K H (.bl c) (.bool c)
  | int (i : Int) : Dq b K H (.int i) (.int i)
  | str (x : Str) : Dq b K H (.str x) (.str x)
  | lst {a : Addr} {xs : List V} {ds : List PyData} : (b = true → a ≠ sysModules) → SqL K H a xs → DqAll b K H xs ds → Dq b K H (.ref a) (.list ds)
  | tup {a : Addr} {xs : List V} {ds : List PyData} : SqT K H a xs → DqAll b K H xs ds → Dq b K H (.ref a) (.tuple ds)
  | dK {a : Addr} {kvs : List (Key × V)} {ps : List (PyData × PyData)} : b = true → H a = some (.dK kvs) → DqAll b K H (kvs.map fun q => kV q.1) (ps.map (·.1)) → DqAll b K H (kvs.map (·.2)) (ps.map (·.2)) → Dq b K H (.ref a) (.dict ps)
inductive DqAll (b : Bool) (K : PySem.W.Frag) (H : Hp) : List V → List PyData → Prop
  | nil : DqAll b K H [] []
  | cons {v : V} {vs : List V} {d : PyData} {ds : List PyData} : Dq b K H v d → DqAll b K H vs ds → DqAll b K H (v :: vs) (d :: ds)
end
mutual
theorem dq_flat {K : PySem.W.Frag} {H : Hp} : ∀ (d : PyData) (v : V), Dq false K H v d → d.hasDict = false
  | .none, _, _ => by simp only [PyData.hasDict]
  | .bool _, _, _ => by simp only [PyData.hasDict]
  | .int _, _, _ => by simp only [PyData.hasDict]
  | .str _, _, _ => by simp only [PyData.hasDict]
  | .list ds, _, h => by
    cases h with
    | lst _ _ ha => simpa only [PyData.hasDict] using dq_flatAll ds _ ha
  | .tuple ds, _, h => by
    cases h with
    | tup _ ha => simpa only [PyData.hasDict] using dq_flatAll ds _ ha
  | .dict _, _, h => by
    cases h with
    | dK e _ _ _ => exact nomatch e
theorem dq_flatAll {K : PySem.W.Frag} {H : Hp} : ∀ (ds : List PyData) (vs : List V), DqAll false K H vs ds → PyData.hasDictAll ds = false
  | [], _, _ => by simp only [PyData.hasDictAll]
  | d :: ds, _, h => by
    cases h with
    | cons h1 h2 => simp only [PyData.hasDictAll, dq_flat d _ h1, dq_flatAll ds _ h2, Bool.or_false]
end
theorem kv_of : ∀ {P : Program} {w : World} {kvs : List (Key × V)} {vs : List (Key × Value)} {es : List DictEntry}, KV kvs vs → Pairs (mixKind P w) es vs → Vals (kvs.map fun q => kV q.1) (es.map (·.key)) ∧ Vals (kvs.map (·.2)) (es.map (·.val))
  | _, _, _, _, _, .nil, .nil => ⟨.nil, .nil⟩
  | P, w, (k, v) :: kvs, (k2, u) :: vs, e :: es, .cons r t, .cons h1 h2 h3 => by
    obtain ⟨a, b⟩ := kv_of (P := P) (w := w) t h3
    obtain ⟨rk, rv⟩ := r
    refine ⟨.cons ?_ a, .cons ?_ b⟩
    · have rk : k = k2 := rk
      subst rk
      rcases keyIs_shape (show keyIs k e.key = true from h1) with ⟨i, t, rfl, z⟩ | ⟨x, t, rfl, z⟩
      · exact ⟨t, z⟩
      · exact ⟨t, z⟩
    · show RelV v e.val
      rw [h2]
      exact rv
section
variable {X : Cx} {pins : List (Addr × Obj)} {σ : L2.St} {H : Hp} {s : Shared} {b : Bool}
mutual
theorem Dq.reads (I : Inv X pins σ H s) : ∀ {d : PyData} {v : V} {u : Value}, Dq b X.K H v d → RelV v u → ∃ as, Reads s.heap u d as ∧ (b = true → sysModules ∉ as)
  | _, _, _, .non, r => by
    cases r
    exact ⟨_, Reads.none, fun _ => by simp⟩
  | _, _, _, .bl b, r => by
    cases r
    exact ⟨_, Reads.bool b, fun _ => by simp⟩
  | _, _, _, .int i, r => by
    obtain ⟨t, rfl⟩ := r
    exact ⟨_, Reads.int i t, fun _ => by simp⟩
  | _, _, _, .str x, r => by
    obtain ⟨t, rfl⟩ := r
    exact ⟨_, Reads.str x t, fun _ => by simp⟩
  | _, _, _, .lst ne hs ha, r => by
    cases r
    obtain ⟨its, rv, ⟨o, n, ho, hc, _, hd⟩, _⟩ := I.list hs
    obtain ⟨as, hr, hn⟩ := Dq.readsAll I ha rv
    exact ⟨_, Reads.list ho hc hd hr, fun z m => by
      rcases List.mem_cons.mp m with m | m
      · exact ne z m.symm
      · exact hn z m⟩
  | _, _, _, .tup hs ha, r => by
    cases r
    obtain ⟨its, rv, ⟨o, ho, hc, n, hd⟩, _⟩ := I.tuple hs
    obtain ⟨as, hr, hn⟩ := Dq.readsAll I ha rv
    exact ⟨_, Reads.tuple ho hc hd hr, hn⟩
  | _, _, _, .dK (a := a) (kvs := kvs) (ps := ps) eb ha h1 h2, r => by
    cases r
    obtain ⟨_, hm, vs, kv, o, es, ep, ho, hx, hde, _, pr, _⟩ := I.hok a _ ha
    obtain ⟨r1, r2⟩ := kv_of kv pr
    obtain ⟨as, q1, n1⟩ := Dq.readsAll I h1 r1
    obtain ⟨bs, q2, n2⟩ := Dq.readsAll I h2 r2
    have rd : Reads s.heap (.ref a) (.dict ps) (a :: as ++ bs) := .dict ho hx.1 hde q1 q2
    exact ⟨_, rd, fun z m => by
      rcases List.mem_append.mp m with m | m
      · rcases List.mem_cons.mp m with m | m
        · rw [← m] at hm
          exact absurd hm (by decide)
        · exact n1 z m
      · exact n2 z m⟩
theorem Dq.readsAll (I : Inv X pins σ H s) : ∀ {ds : List PyData} {vs : List V} {us : List Value}, DqAll b X.K H vs ds → Vals vs us → ∃ as, ReadsAll s.heap us ds as ∧ (b = true → sysModules ∉ as)
  | _, _, _, .nil, r => by
    cases r
    exact ⟨_, ReadsAll.nil, fun _ => by simp⟩
  | _, _, _, .cons h1 h2, r => by
    cases r with
    | cons r1 r2 =>
      obtain ⟨as, q1, n1⟩ := Dq.reads I h1 r1
      obtain ⟨bs, q2, n2⟩ := Dq.readsAll I h2 r2
      exact ⟨_, ReadsAll.cons q1 q2, fun z m => by
        rcases List.mem_append.mp m with m | m
        · exact n1 z m
        · exact n2 z m⟩
end
end
/-- z is how repr tells v -/
def Shq (K : PySem.W.Frag) (H : Hp) (v : V) (z : Str) : Prop := ∃ b d, Dq b K H v d ∧ d.showable = true ∧ d.shown.length ≤ sizeLine ∧ d.depth ≤ 60 ∧ z = d.shown
section
variable {X : Cx} {j : Nat}
theorem call_repr_shq (ga : X.A.guards = some []) (hr : Room j X.A) : CallR X (.builtin "repr") (fun xs H Q => ∃ v z, xs = [v] ∧ Shq X.K H v z ∧ Q (.str z) H) := by
  intro pins s σ H xs us Q I r h
  obtain ⟨v, z, rfl, ⟨b, d, hd, h1, h2, h3, rfl⟩, q⟩ := h
  obtain ⟨u, rfl, rv⟩ := vals1 r
  have hu := hr.units
  have fin : ∀ {x : Str} {t : Nat}, x = d.shown → EP X pins σ Q (.str x s.toks) { s with toks := t } := fun {x t} e => ⟨.str _, H, I.tok _, ⟨_, rfl⟩, by rw [e]; exact q⟩
  have ref : ∀ {a : Addr}, v = .ref a → wpAny (model X.prog X.w) X.A (call (.builtin "repr") [u]) (EP X pins σ Q) X.xe s := fun {a} e => by
    subst e
    obtain rfl : u = Value.ref a := rv
    obtain ⟨as, rd, hn⟩ := Dq.reads I (u := .ref a) hd rfl
    refine repr_of_reads' rd h1 (fun hh => ?_) ga (by omega) (fun _ _ e => e) (fun h' u tk hk => ⟨.str _, H, I.kept hk, ⟨_, rfl⟩, q⟩) h2
    cases b with
    | true => exact hn rfl
    | false =>
      rw [dq_flat d _ hd] at hh
      exact nomatch hh
  cases hd with
  | non =>
    cases rv
    exact PySem.P.repr_of_none (fin (by simp only [PyData.shown]))
  | bl b =>
    cases rv
    exact PySem.P.repr_of_bool (fin (by simp only [PyData.shown]))
  | int i =>
    obtain ⟨t, rfl⟩ := rv
    exact PySem.P.repr_of_int (by simpa only [PyData.showable, decide_eq_true_eq] using h1) (fin (by simp only [PyData.shown]))
  | str x =>
    obtain ⟨t, rfl⟩ := rv
    exact PySem.P.repr_of_str (fin (by simp only [PyData.shown])) (by simpa only [PyData.shown] using h2)
  | lst _ _ _ => exact ref rfl
  | tup _ _ => exact ref rfl
  | dK _ _ _ _ => exact ref rfl
end
mutual
def smQ : PyData → Bool
  | .none | .bool _ => true
  | .int i => decide (i.natAbs < 10 ^ 38)
  | .str x => x.cps.toList.all fun c => decide (c < 16 ^ 8)
  | .list xs | .tuple xs => smQL xs
  | .dict ps => smQK ps
def smQL : List PyData → Bool
  | [] => true
  | x :: xs => smQ x && smQL xs
def smQK : List (PyData × PyData) → Bool
  | [] => true
  | (x, y) :: xs => smQ x && smQ y && smQK xs
end
mutual
theorem smQ_ok : ∀ d : PyData, smQ d = true → d.showable = true ∧ d.leavesShort 40 = true
  | .none, _ => ⟨rfl, rfl⟩
  | .bool _, _ => ⟨rfl, rfl⟩
  | .int i, h => by
    have h' : smallD (.int i) = true := by simpa only [smallD, smQ] using h
    exact small_ok _ h'
  | .str x, h => ⟨by simp only [PyData.showable], by simpa only [smQ, PyData.leavesShort] using h⟩
  | .list xs, h => by simpa only [PyData.showable, PyData.leavesShort] using smQ_okL xs (by simpa only [smQ] using h)
  | .tuple xs, h => by simpa only [PyData.showable, PyData.leavesShort] using smQ_okL xs (by simpa only [smQ] using h)
  | .dict ps, h => by simpa only [PyData.showable, PyData.leavesShort] using smQ_okK ps (by simpa only [smQ] using h)
theorem smQ_okL : ∀ xs : List PyData, smQL xs = true → PyData.showableAll xs = true ∧ PyData.leavesShortAll 40 xs = true
  | [], _ => ⟨rfl, rfl⟩
  | x :: xs, h => by
    have h' : smQ x = true ∧ smQL xs = true := by simpa only [smQL, Bool.and_eq_true] using h
    obtain ⟨a, b⟩ := smQ_ok x h'.1
    obtain ⟨c, d⟩ := smQ_okL xs h'.2
    exact ⟨by simp only [PyData.showableAll, a, c, Bool.and_true], by simp only [PyData.leavesShortAll, b, d, Bool.and_true]⟩
theorem smQ_okK : ∀ xs : List (PyData × PyData), smQK xs = true → PyData.showableKv xs = true ∧ PyData.leavesShortKv 40 xs = true
  | [], _ => ⟨rfl, rfl⟩
  | (x, y) :: xs, h => by
    have h' : (smQ x = true ∧ smQ y = true) ∧ smQK xs = true := by simpa only [smQK, Bool.and_eq_true] using h
    obtain ⟨a, b⟩ := smQ_ok x h'.1.1
    obtain ⟨a2, b2⟩ := smQ_ok y h'.1.2
    obtain ⟨c, d⟩ := smQ_okK xs h'.2
    exact ⟨by simp only [PyData.showableKv, a, a2, c, Bool.and_true], by simp only [PyData.leavesShortKv, b, b2, d, Bool.and_true]⟩
end
section
variable {b : Bool} {K : PySem.W.Frag} {H H' : Hp} {v : V} {a : Addr} {xs : List V}
theorem shq_of {d : PyData} (h : Dq b K H v d) (s : smQ d = true) (l : d.bulk ≤ 390000) (e : d.depth ≤ 60) : Shq K H v d.shown := by
  obtain ⟨h1, h2⟩ := smQ_ok d s
  have h3 := PyData.shown_le_bulk 40 (by decide) d h2
  exact ⟨b, d, h, h1, by rw [sizeLine_eq]; omega, e, rfl⟩
/-- a thing that may stand in a list whose text is asked: m its size -/
def ItQ (b : Bool) (K : PySem.W.Frag) (H : Hp) (m : Nat) (v : V) : Prop := ∃ d, Dq b K H v d ∧ smQ d = true ∧ d.bulk ≤ m ∧ d.depth ≤ 20
theorem ItQ.shq {m : Nat} (h : ItQ b K H m v) (l : m ≤ 390000) : ∃ z, Shq K H v z := let ⟨_, h1, h2, h3, h4⟩ := h; ⟨_, shq_of h1 h2 (by omega) (by omega)⟩
theorem itqs {m : Nat} : ∀ {xs : List V}, (∀ y ∈ xs, ItQ b K H m y) → ∃ ds, DqAll b K H xs ds ∧ smQL ds = true ∧ PyData.bulkAll ds ≤ (m + 1) * xs.length ∧ PyData.depthAll ds ≤ 20
  | [], _ => ⟨[], .nil, rfl, Nat.le_refl _, Nat.zero_le _⟩
  | y :: ys, h => by
    obtain ⟨d, h1, h2, h3, h4⟩ := h y List.mem_cons_self
    obtain ⟨ds, g1, g2, g3, g4⟩ := itqs fun z hz => h z (List.mem_cons_of_mem _ hz)
    refine ⟨d :: ds, .cons h1 g1, by simp only [smQL, h2, g2, Bool.and_true], ?_, ?_⟩
    · simp only [PyData.bulkAll, List.length_cons, Nat.mul_succ]
      omega
    · simp only [PyData.depthAll]
      omega
/-- two lists of the same things are told alike -/
theorem shq_lst2 {m : Nat} {c : Addr} (h : SqL K H a xs) (h2 : SqL K H c xs) (n1 : b = true → a ≠ sysModules) (n2 : b = true → c ≠ sysModules) (i : ∀ y ∈ xs, ItQ b K H m y) (l : (m + 1) * xs.length ≤ 390000) : ∃ z, Shq K H (.ref a) z ∧ Shq K H (.ref c) z := by
  obtain ⟨ds, g1, g2, g3, g4⟩ := itqs i
  exact ⟨_, shq_of (.lst n1 h g1) (by simpa only [smQ] using g2) (by simp only [PyData.bulk]; omega) (by simp only [PyData.depth]; omega),
    shq_of (.lst n2 h2 g1) (by simpa only [smQ] using g2) (by simp only [PyData.bulk]; omega) (by simp only [PyData.depth]; omega)⟩
theorem shq_tup2 {m : Nat} {c : Addr} (h : SqT K H a xs) (h2 : SqT K H c xs) (i : ∀ y ∈ xs, ItQ b K H m y) (l : (m + 1) * xs.length ≤ 390000) : ∃ z, Shq K H (.ref a) z ∧ Shq K H (.ref c) z := by
  obtain ⟨ds, g1, g2, g3, g4⟩ := itqs i
  exact ⟨_, shq_of (.tup h g1) (by simpa only [smQ] using g2) (by simp only [PyData.bulk]; omega) (by simp only [PyData.depth]; omega),
    shq_of (.tup h2 g1) (by simpa only [smQ] using g2) (by simp only [PyData.bulk]; omega) (by simp only [PyData.depth]; omega)⟩
/-- a list of things within a list -/
theorem itq_lst {m M : Nat} (h : SqL K H a xs) (n1 : b = true → a ≠ sysModules) (i : ∀ y ∈ xs, ∃ d, Dq b K H y d ∧ smQ d = true ∧ d.bulk ≤ m ∧ d.depth = 0) (l : (m + 1) * xs.length ≤ M) : ItQ b K H M (.ref a) := by
  have go : ∀ {xs : List V}, (∀ y ∈ xs, ∃ d, Dq b K H y d ∧ smQ d = true ∧ d.bulk ≤ m ∧ d.depth = 0) → ∃ ds, DqAll b K H xs ds ∧ smQL ds = true ∧ PyData.bulkAll ds ≤ (m + 1) * xs.length ∧ PyData.depthAll ds = 0 := by
    intro xs
    induction xs with
    | nil => exact fun _ => ⟨[], .nil, rfl, Nat.le_refl _, rfl⟩
    | cons y ys ih =>
      intro h
      obtain ⟨d, h1, h2, h3, h4⟩ := h y List.mem_cons_self
      obtain ⟨ds, g1, g2, g3, g4⟩ := ih fun z hz => h z (List.mem_cons_of_mem _ hz)
      refine ⟨d :: ds, .cons h1 g1, by simp only [smQL, h2, g2, Bool.and_true], ?_, ?_⟩
      · simp only [PyData.bulkAll, List.length_cons, Nat.mul_succ]
        omega
      · simp only [PyData.depthAll, h4, g4]
        rfl
  obtain ⟨ds, g1, g2, g3, g4⟩ := go i
  exact ⟨_, .lst n1 h g1, by simpa only [smQ] using g2, by simp only [PyData.bulk]; omega, by simp only [PyData.depth, g4]; omega⟩
theorem dqS (h : smS v = true) : Dq b K H v (datS v) ∧ smQ (datS v) = true ∧ (datS v).bulk ≤ 100 ∧ (datS v).depth = 0 := by
  obtain ⟨h1, h2, h3, h4⟩ := datS_ok (K := K) (H := H) h
  refine ⟨?_, ?_, h3, h4⟩
  · cases v with
    | non => exact .non
    | bl b => exact .bl b
    | int i => exact .int i
    | str z => exact .str z
    | _ => exact nomatch h
  · cases v with
    | non => exact rfl
    | bl b => exact rfl
    | int i => simpa only [smallD, smQ, datS] using h2
    | str z => simpa only [smallD, smQ, datS] using h2
    | _ => exact nomatch h
theorem itq_sc (h : smS v = true) : ItQ b K H 100 v := let ⟨h1, h2, h3, h4⟩ := dqS h; ⟨_, h1, h2, h3, by omega⟩
theorem itq_int {i : Int} (h : i.natAbs < 10 ^ 38) : ItQ b K H 0 (.int i) := ⟨.int i, .int i, by simpa only [smQ, decide_eq_true_eq] using h, Nat.le_refl _, by simp only [PyData.depth]; decide⟩
theorem ItQ.mono {m M : Nat} (h : ItQ b K H m v) (l : m ≤ M) : ItQ b K H M v := let ⟨d, h1, h2, h3, h4⟩ := h; ⟨d, h1, h2, by omega, h4⟩
theorem shq_sc (h : smS v = true) : Shq K H v (datS v).shown := let ⟨h1, h2, h3, h4⟩ := dqS (b := false) h; shq_of h1 h2 (by omega) (by omega)
end
/-! new lists and dicts stand where no dict of modules does -/
def NewLB (xs : List V) (H : Hp) (Q : VK) : Prop := xs.length ≤ sizeLine ∧ ∀ p, H p = none → p ≠ sysModules → Q (.ref p) (upd H p (.lst xs))
def tLstB (t : TA) : TE := fun σ H Q => t σ H fun xs H1 => NewLB xs H1 Q
section
variable {X : Cx} {es : List Expr} {t : TA} {pos : Pos}
theorem pe_lstB (h : PA X es t) : PE X (.List es pos) (tLstB t) := by
  refine ⟨fun pins s σ H Q I hq => ?_⟩
  refine wpAny_List_spliced (thn (h.run pos pins s σ H _ I hq) fun us s1 ⟨xs, H1, I1, r, z, q⟩ => ⟨by rw [← r.length]; exact z, ?_⟩)
  have hf : H1 s1.heap.objs.size = none := I1.hok.fresh (Nat.le_refl _)
  refine ⟨.ref s1.heap.objs.size, upd H1 s1.heap.objs.size (.lst xs), I1.laid (t' := s1.toks) (fun b u e => Heap.get?_push_of_some _ e) (Nat.le_refl _) ?_, rfl, q _ hf (Nat.ne_of_gt I1.big)⟩
  exact ⟨z, us, 0, r, Heap.get?_push_size _ rfl⟩
theorem r_lstB {σ : L2.St} {H : Hp} {Q : VK} (q : t σ H fun xs H1 => NewLB xs H1 Q) : tLstB t σ H Q := q
theorem newLB {xs : List V} {H : Hp} {Q : VK} (q : ∀ p H', H p = none → p ≠ sysModules → Same H H' → H' p = some (.lst xs) → Q (.ref p) H') (hl : xs.length ≤ 10000 := by exact Nat.le_of_ble_eq_true rfl) : NewLB xs H Q :=
  ⟨Nat.le_trans hl (by decide), fun p hp ns => q p _ hp ns (same_upd hp) upd_same⟩
end
end Bk

namespace Bk
open PySem PySem.Spec PyProof.Rows L2
/-! ## 26. isinstance of what an except suite holds -/
def rIsH (K : PySem.W.Frag) (a : Addr) (cls : Value) (d : Option Addr) (C : Addr) : List V → Hp → VK → Prop := fun xs H Q => ∃ (c : V) (u : Value) (b : Bool) (dd : Addr) (fs : List (Str × V)), xs = [.ref a, c] ∧ cls = .ref C ∧ d = some dd ∧ H dd = some (.xd fs) ∧ ClsV c u ∧ PySem.W.kitOne K (.ref C) u = some b ∧ Q (.bl b) H
def rIsH2 (K : PySem.W.Frag) (a : Addr) (cls : Value) (d : Option Addr) (C : Addr) : List V → Hp → VK → Prop := fun xs H Q => ∃ (tp : Addr) (cs : List V) (us : List Value) (b : Bool) (dd : Addr) (fs : List (Str × V)), xs = [.ref a, .ref tp] ∧ cls = .ref C ∧ d = some dd ∧ H dd = some (.xd fs) ∧ H tp = some (.tup cs) ∧ Paired ClsV cs us ∧ PySem.W.kitAny K (.ref C) us = some b ∧ Q (.bl b) H
section
variable {X : Cx} {a C : Addr} {oe : Obj} {cls : Value} {d : Option Addr} {pn : List (Addr × Obj)}
theorem held_inst {pins : List (Addr × Obj)} {σ : L2.St} {H : Hp} {s : Shared} {dd : Addr} {fs : List (Str × V)} (I : Inv (X.suite a ((a, oe) :: pn)) pins σ H s) (hz : Zc (.ref C) (some dd) oe) (hf : ∃ vs, oe.data = .fields vs) (ea : H dd = some (.xd fs)) :
    ∃ od, PySem.W.InstAt s.heap a oe C (some od) := by
  obtain ⟨ha, _⟩ := I.pin (a, oe) (List.mem_append_left _ List.mem_cons_self)
  obtain ⟨vs, hd⟩ := hf
  have hx : ObjOk X.prog X.w H s.heap dd (.xd fs) := I.hok dd _ ea
  obtain ⟨mA, hns, hr⟩ := hx
  obtain ⟨od, ho, hl⟩ := lookIn_ns hns
  exact ⟨od, ha, hz.1, by unfold PySem.W.notCls; rw [hd] <;> rfl, by rw [hz.2]; exact ho⟩
theorem call_isH (T : ExcC X.K C) (hz : Zc cls d oe) (hf : ∃ vs, oe.data = .fields vs) : CallR (X.suite a ((a, oe) :: pn)) (.builtin "isinstance") (rIsH X.K a cls d C) := by
  intro pins s σ H xs us Q I r h
  obtain ⟨c, u, b, dd, fs, rfl, ec, ed, ea, k, e, q⟩ := h
  subst ec
  subst ed
  obtain ⟨u1, u2, rfl, r1, r2⟩ := vals2 r
  have e2 := k.eq r2
  subst e2
  obtain rfl : u1 = Value.ref a := r1
  obtain ⟨od, J⟩ := held_inst I hz hf ea
  exact PySem.W.kia_one (PySem.W.bk_kitx (ox := oe) (od := some od) T.hg T.hk T.hs T.hd T.ha T.hn T.ht T.hm) I.kIn J e (fun z => nomatch z) fun tk => ⟨.bl b, H, I.tok tk, rfl, q⟩
theorem call_isH2 (T : ExcC X.K C) (hz : Zc cls d oe) (hf : ∃ vs, oe.data = .fields vs) : CallR (X.suite a ((a, oe) :: pn)) (.builtin "isinstance") (rIsH2 X.K a cls d C) := by
  intro pins s σ H xs us Q I r h
  obtain ⟨tp, cs, ws, b, dd, fs, rfl, ec, ed, ea, hT, k, e, q⟩ := h
  subst ec
  subst ed
  obtain ⟨u1, u2, rfl, r1, r2⟩ := vals2 r
  cases (show u2 = Value.ref tp from r2)
  obtain rfl : u1 = Value.ref a := r1
  obtain ⟨od, J⟩ := held_inst I hz hf ea
  obtain ⟨_, its, rv, o, h1, h2, n, h3⟩ := (show ObjOk X.prog X.w H s.heap tp (.tup cs) from I.hok tp _ hT)
  have e3 := ClsV.all k rv
  subst e3
  obtain ⟨oc, od2, dt, sl⟩ := o
  simp only at h2 h3
  subst h2 h3
  exact PySem.W.kia_tup (PySem.W.bk_kitx (ox := oe) (od := some od) T.hg T.hk T.hs T.hd T.ha T.hn T.ht T.hm) I.kIn J h1 e (fun z => nomatch z) fun tk => ⟨.bl b, H, I.tok tk, rfl, q⟩
end
section
variable {K : PySem.W.Frag} {a C : Addr} {cls : Value} {d : Option Addr} {H : Hp} {Q : VK}
theorem r_isH {dd : Addr} {fs : List (Str × V)} {D : Addr} {b : Bool} (ec : cls = .ref C) (ed : d = some dd) (ea : H dd = some (.xd fs)) (e : PySem.W.kitOne K (.ref C) (.ref D) = some b) (q : Q (.bl b) H) : rIsH K a cls d C [.ref a, .ref D] H Q :=
  ⟨_, _, b, dd, fs, rfl, ec, ed, ea, .own D, e, q⟩
theorem r_isHB {dd : Addr} {fs : List (Str × V)} {T : String} {b : Bool} (ec : cls = .ref C) (ed : d = some dd) (ea : H dd = some (.xd fs)) (e : PySem.W.kitOne K (.ref C) (.type T) = some b) (q : Q (.bl b) H) : rIsH K a cls d C [.ref a, .ty T] H Q :=
  ⟨_, _, b, dd, fs, rfl, ec, ed, ea, .ty T, e, q⟩
theorem r_isH2 {dd tp : Addr} {fs : List (Str × V)} {D1 D2 : Addr} {b c : Bool} (ec : cls = .ref C) (ed : d = some dd) (ea : H dd = some (.xd fs)) (et : H tp = some (.tup [.ref D1, .ref D2])) (e : PySem.W.kitOne K (.ref C) (.ref D1) = some b) (e2 : PySem.W.kitOne K (.ref C) (.ref D2) = some c) (q : Q (.bl (b || c)) H) : rIsH2 K a cls d C [.ref a, .ref tp] H Q := by
  refine ⟨tp, _, [.ref D1, .ref D2], _, dd, fs, rfl, ec, ed, ea, et, .cons (.own D1) (.cons (.own D2) .nil), ?_, q⟩
  cases b with
  | true => exact kitAny_cons e (fun z => nomatch z) (fun _ => rfl)
  | false => exact kitAny_cons e (fun _ => by cases c with
      | true => exact kitAny_cons e2 (fun z => nomatch z) (fun _ => rfl)
      | false => exact kitAny_cons e2 (fun _ => kitAny_nil) (fun z => nomatch z)) (fun z => nomatch z)
theorem kit_own {D : Addr} {b : Bool} (self : PySem.W.subIn K (.ref C) (.ref C) = some true) (hdct : PySem.W.hasDictIn K D = true) (ht : PySem.W.typeIn K (.ref D) = some (.type "type")) (h : PySem.W.subIn K (.ref C) (.ref D) = some b) : PySem.W.kitOne K (.ref C) (.ref D) = some b := by
  obtain ⟨cd, hc, _⟩ := PySem.W.any_some hdct
  unfold PySem.W.kitOne
  by_cases e : C = D
  · subst e
    rw [self] at h
    obtain rfl := Option.some.inj h
    rw [if_pos (beq_self_eq_true _)]
  · rw [if_neg (fun z => e (by injection (beq_iff_eq.mp z)))]
    show (if ((PySem.W.clsIn K D).isSome && PySem.W.typeIn K (.ref D) == some (.type "type")) = true then PySem.W.subIn K (.ref C) (.ref D) else none) = some b
    rw [if_pos (by rw [hc, ht]; rfl)]
    exact h
end
theorem call_list_ofK {X : Cx} {K : PySem.W.Frag} (h : X.K = K) : CallR X (.type "list") (fun xs H Q => ∃ p ys, xs = [.ref p] ∧ (SqL K H p ys ∨ SqT K H p ys) ∧ ∀ l, H l = none → Q (.ref l) (upd H l (.lst ys))) := by
  subst h
  exact call_list_of
theorem call_len_seqK {X : Cx} {K : PySem.W.Frag} (h : X.K = K) : CallR X (.builtin "len") (fun xs H Q => ∃ p ys, xs = [.ref p] ∧ (SqL K H p ys ∨ SqT K H p ys) ∧ Q (.int ys.length) H) := by
  subst h
  exact call_len_seq
/-- all that is asked of an own exception class -/
structure ExcA (K : PySem.W.Frag) (b : Bs) (nm : Str) (C f : Addr) : Prop where
  ox : OexT K b C
  i : PySem.W.findIn K (.ref C) "__init__" = some (some (.ref f))
  t : PySem.W.typeIn K (.ref f) = some (.type "function")
  nf : PySem.W.findIn K (.ref C) nm = some none
  xf : XfC K C
  xc : ExcC K C
/-! ## 26a. comprehensions that lay new things -/
section
variable {K : PySem.W.Frag} {σ : L2.St} {H : Hp} {Q : VK} {j : Nat} {vs : List Nat} {te tl : TE} {a : Addr} {xs : List V}
theorem lcNewR (n : Nat) (c : Nat → HO) (hl : n ≤ 1000) (hw : ∀ x, wipe ((wipe σ vs).set j (some x)) vs = wipe σ vs)
    (ht : ∀ (i : Nat) (H1 : Hp) (Q' : VK), i < n → Same H H1 → (∀ t H3, H1 t = none → Same H1 H3 → H3 t = some (c i) → Q' (.ref t) H3) → te ((wipe σ vs).set j (some (.int (0 + (i : Int))))) H1 Q')
    (q : ∀ D H' (ts : List Addr), H D = none → Same H H' → H' D = some (.lst (ts.map V.ref)) → ts.length = n → (∀ k t, ts[k]? = some t → H' t = some (c k)) → (D :: ts).Nodup → (∀ t ∈ ts, H t = none) → Q (.ref D) H') :
    tLc (iRng1 (tCons (tC (.int n)) tNil)) (gName j) tYes te vs σ H Q := by
  refine ⟨_, rfl, by omega, by omega, fun D hD => ?_⟩
  rw [Int.toNat_natCast]
  refine lc_new (g := gName j) (te := te) (vs := vs) (σ := σ) (Q := Q) walk_range c hD (by omega) (fun _ _ => trivial) (fun i x H1 H2 Q' R' hi sm y k => ?_) fun H' ts s e l all nd fr => q D H' ts hD s e l all nd fr
  obtain ⟨rfl, rfl⟩ := y
  refine ⟨hw _, r_yes ?_⟩
  exact ht i H2 Q' hi sm k
theorem lcNewL (c : Nat → HO) (hv : ∀ QQ : VK, QQ (.ref a) H → tl σ H QQ) (hs : SqL K H a xs) (hl : xs.length ≤ 10000) (hw : ∀ x, wipe ((wipe σ vs).set j (some x)) vs = wipe σ vs)
    (ht : ∀ (i : Nat) (y : V) (H1 : Hp) (Q' : VK), xs[i]? = some y → Same H H1 → (∀ t H3, H1 t = none → Same H1 H3 → H3 t = some (c i) → Q' (.ref t) H3) → te ((wipe σ vs).set j (some y)) H1 Q')
    (q : ∀ D H' (ts : List Addr), H D = none → Same H H' → H' D = some (.lst (ts.map V.ref)) → ts.length = xs.length → (∀ k t, ts[k]? = some t → H' t = some (c k)) → (D :: ts).Nodup → (∀ t ∈ ts, H t = none) → Q (.ref D) H') :
    tLc (iList K tl) (gName j) tYes te vs σ H Q := by
  refine hv _ ⟨a, rfl, ⟨xs, hs⟩, fun D hD => ?_⟩
  refine lc_new (g := gName j) (te := te) (vs := vs) (σ := σ) (Q := Q) walk_list c hD hl (fun _ s => s.seq hs) (fun i x H1 H2 Q' R' hi sm y k => ?_) fun H' ts s e l all nd fr => q D H' ts hD s e l all nd fr
  obtain ⟨rfl, hx⟩ := y
  exact ⟨hw _, r_yes (ht i x H2 Q' hx sm k)⟩
end
/-! ## 27. a count -/
def countV (x : V) : Bool := match x with
  | .int i => decide (0 ≤ i)
  | _ => false
/-- a thing of which isinstance(.., int) is known -/
def WC (K : PySem.W.Frag) (H : Hp) (x : V) : Prop := (∃ i, x = .int i) ∨ (∃ b, x = .bl b) ∨ (IsA K H x "int" false ∧ (∀ l h, wholeV x l h = false) ∧ countV x = false)
theorem WC.wd {K : PySem.W.Frag} {H : Hp} {x : V} (h : WC K H x) : WD K H x := by
  rcases h with h | h | ⟨h1, h2, _⟩
  · exact .inl h
  · exact .inr (.inl h)
  · exact .inr (.inr ⟨h1, h2⟩)
def spCount (K : PySem.W.Frag) : Sp := fun vs H Q _ => ∃ x : V, vs = [x] ∧ WC K H x ∧ Q (.bl (countV x)) H
def spCheckN (K : PySem.W.Frag) (C : Addr) : Sp := fun vs H Q E => ∃ (x : V) (lo hi : Int), vs = [x, .int lo, .int hi] ∧ WD K H x ∧ ((wholeV x lo hi = true ∧ Q .non H) ∨ (wholeV x lo hi = false ∧ Refuse C x H E))
def spCheckC (K : PySem.W.Frag) (C : Addr) : Sp := fun vs H Q E => ∃ x : V, vs = [x] ∧ WC K H x ∧ ((countV x = true ∧ Q .non H) ∨ (countV x = false ∧ Refuse C x H E))
theorem whole_int {i lo hi : Int} (h0 : lo ≤ i) (h1 : i ≤ hi) : wholeV (.int i) lo hi = true := by
  show (decide (lo ≤ i) && decide (i ≤ hi)) = true
  rw [decide_eq_true h0, decide_eq_true h1]
  rfl
theorem count_int {i : Int} (h0 : 0 ≤ i) : countV (.int i) = true := decide_eq_true h0
end Bk

namespace Bk
open PySem PySem.Spec PyProof.Rows L2
/-! ## 28. return [tag, e.f, isinstance(e, G) and not isinstance(e, (B1, B2))] -/
def tHit (K : PySem.W.Frag) (i : Nat) (C G B1 B2 : Addr) (tag nm : Str) (a : Addr) (cls : Value) (d : Option Addr) : TS :=
  tRet (tLstB (tCons (tC (.str tag)) (tCons (tXf a cls d C nm (tVar i)) (tCons (tAndV (tCB (rIsH K a cls d C) (tCons (tVar i) (tCons (tC (.ref G)) tNil)))
    (tNotV (tCB (rIsH2 K a cls d C) (tCons (tVar i) (tCons (tTup (tCons (tC (.ref B1)) (tCons (tC (.ref B2)) tNil))) tNil))))) tNil))))
theorem caught_lst {K : PySem.W.Frag} {C d G B1 B2 : Addr} {i : Nat} {σ : L2.St} {H' : Hp} {D : Ends} {l : List ClA} {v : V} {tag nm : Str} (e : PySem.W.exmOne K (.ref C) (.ref C) = some true) (hi : i < σ.length) (ed : H' d = some (.xd [(nm, v)]))
    (kG : PySem.W.kitOne K (.ref C) (.ref G) = some true) (k1 : PySem.W.kitOne K (.ref C) (.ref B1) = some false) (k2 : PySem.W.kitOne K (.ref C) (.ref B2) = some false)
    (q : ∀ p H2, H' p = none → p ≠ sysModules → Same H' H2 → H2 p = some (.lst [.str tag, v, .bl true]) → D.rt (.ref p) H2) :
    wAM K D ((.ref C, i, fun a cls d => tHit K i C G B1 B2 tag nm a cls d) :: l) (.ref C) (some d) σ H' := by
  refine w_hit e fun a na => ?_
  show tHit K i C G B1 B2 tag nm a (.ref C) (some d) (offI i D) (σ.set i (some (.ref a))) H'
  have hv : (σ.set i (some (V.ref a)))[i]? = some (some (.ref a)) := List.getElem?_set_self hi
  refine r_ret (r_lstB (r_cons (r_c (r_cons ?_))))
  refine ⟨.ref a, hv, rfl, rfl, d, _, v, rfl, ed, by rw [List.lookup_cons, beq_self_eq_true], ?_⟩
  refine r_cons (r_andV (r_cb (r_cons (r_var hv (r_cons (r_c (r_nil (r_isH rfl rfl ed kG ⟨true, rfl, iteT ?_⟩))))))))
  refine r_notV (r_cb (r_cons (r_var hv (r_cons (r_tup (r_cons (r_c (r_cons (r_c (r_nil (newT fun tp H2 nt st et => ?_)))))))))))
  refine r_nil (r_isH2 rfl rfl (st _ _ ed) et k1 k2 ⟨_, rfl, r_nil (newLB fun p H3 np ns s3 e3 => q p H3 (st.free np) ns (st.trans s3) e3)⟩)
theorem r_disp1 {σ : L2.St} {H : Hp} {Q : VK} {k : Key} {v : V} (q : ∀ p H', H p = none → Same H H' → H' p = some (.dK [(k, v)]) → Q (.ref p) H') : tDisp [(tC (kV k), tC v)] σ H Q := by
  intro p np
  refine ⟨upd_same, [(k, v)], rfl, (by show 1 ≤ 15; decide), ?_⟩
  refine q p _ np (fun b o e => ?_) upd_same
  rw [upd_ne (ne_of_none e np), upd_ne (ne_of_none e np)]
  exact e
/-! ## 29. things of a known depth -/
section
variable {b : Bool} {K : PySem.W.Frag} {H H' : Hp} {v : V} {a : Addr} {xs : List V}
def ItD (b : Bool) (K : PySem.W.Frag) (H : Hp) (m k : Nat) (v : V) : Prop := ∃ d, Dq b K H v d ∧ smQ d = true ∧ d.bulk ≤ m ∧ d.depth ≤ k
theorem ItD.q {m k : Nat} (h : ItD b K H m k v) (l : k ≤ 20) : ItQ b K H m v := let ⟨d, h1, h2, h3, h4⟩ := h; ⟨d, h1, h2, h3, by omega⟩
theorem ItD.mono {m k M L : Nat} (h : ItD b K H m k v) (l : m ≤ M) (l2 : k ≤ L) : ItD b K H M L v := let ⟨d, h1, h2, h3, h4⟩ := h; ⟨d, h1, h2, by omega, by omega⟩
theorem itds {m k : Nat} : ∀ {xs : List V}, (∀ y ∈ xs, ItD b K H m k y) → ∃ ds, DqAll b K H xs ds ∧ smQL ds = true ∧ PyData.bulkAll ds ≤ (m + 1) * xs.length ∧ PyData.depthAll ds ≤ k
  | [], _ => ⟨[], .nil, rfl, Nat.le_refl _, Nat.zero_le _⟩
  | y :: ys, h => by
    obtain ⟨d, h1, h2, h3, h4⟩ := h y List.mem_cons_self
    obtain ⟨ds, g1, g2, g3, g4⟩ := itds fun z hz => h z (List.mem_cons_of_mem _ hz)
    refine ⟨d :: ds, .cons h1 g1, by simp only [smQL, h2, g2, Bool.and_true], ?_, ?_⟩
    · simp only [PyData.bulkAll, List.length_cons, Nat.mul_succ]
      omega
    · simp only [PyData.depthAll]
      omega
theorem itd_lst {m k M : Nat} (h : SqL K H a xs) (n1 : b = true → a ≠ sysModules) (i : ∀ y ∈ xs, ItD b K H m k y) (l : (m + 1) * xs.length ≤ M) : ItD b K H M (k + 1) (.ref a) := by
  obtain ⟨ds, g1, g2, g3, g4⟩ := itds i
  exact ⟨_, .lst n1 h g1, by simpa only [smQ] using g2, by simp only [PyData.bulk]; omega, by simp only [PyData.depth]; omega⟩
theorem itd_tup {m k M : Nat} (h : SqT K H a xs) (i : ∀ y ∈ xs, ItD b K H m k y) (l : (m + 1) * xs.length ≤ M) : ItD b K H M (k + 1) (.ref a) := by
  obtain ⟨ds, g1, g2, g3, g4⟩ := itds i
  exact ⟨_, .tup h g1, by simpa only [smQ] using g2, by simp only [PyData.bulk]; omega, by simp only [PyData.depth]; omega⟩
theorem itd_sc (h : smS v = true) : ItD b K H 100 0 v := let ⟨h1, h2, h3, h4⟩ := dqS h; ⟨_, h1, h2, h3, by omega⟩
/-- a dict of scalars, by keys that are scalars -/
theorem itd_dK {kvs : List (Key × V)} (e : H a = some (.dK kvs)) (h : ∀ q ∈ kvs, smS (kV q.1) = true ∧ smS q.2 = true) (l : kvs.length ≤ 5) : ItD true K H 2000 1 (.ref a) := by
  have go : ∀ {l : List (Key × V)}, (∀ q ∈ l, smS (kV q.1) = true ∧ smS q.2 = true) → ∃ ps : List (PyData × PyData), DqAll true K H (l.map fun q => kV q.1) (ps.map (·.1)) ∧ DqAll true K H (l.map (·.2)) (ps.map (·.2)) ∧ smQK ps = true ∧ PyData.bulkKv ps ≤ 202 * l.length ∧ PyData.depthKv ps = 0 := by
    intro l
    induction l with
    | nil => exact fun _ => ⟨[], .nil, .nil, rfl, Nat.le_refl _, rfl⟩
    | cons q r ih =>
      intro h
      obtain ⟨h1, h2⟩ := h q List.mem_cons_self
      obtain ⟨a1, a2, a3, a4⟩ := dqS (b := true) (K := K) (H := H) h1
      obtain ⟨b1, b2, b3, b4⟩ := dqS (b := true) (K := K) (H := H) h2
      obtain ⟨ps, g1, g2, g3, g4, g5⟩ := ih fun z hz => h z (List.mem_cons_of_mem _ hz)
      refine ⟨(datS (kV q.1), datS q.2) :: ps, .cons a1 g1, .cons b1 g2, by simp only [smQK, a2, b2, g3, Bool.and_true], ?_, ?_⟩
      · simp only [PyData.bulkKv, List.length_cons]
        omega
      · simp only [PyData.depthKv, a4, b4, g5]
        rfl
  obtain ⟨ps, g1, g2, g3, g4, g5⟩ := go h
  exact ⟨.dict ps, .dK rfl e g1 g2, by simpa only [smQ] using g3, by simp only [PyData.bulk]; omega, by simp only [PyData.depth, g5]; omega⟩
end
section
variable {b : Bool} {K : PySem.W.Frag} {H H' : Hp} {v : V} {a : Addr} {xs : List V}
theorem dqSs : ∀ {xs : List V}, xs.all smS = true → DqAll b K H xs (xs.map datS) ∧ smQL (xs.map datS) = true ∧ PyData.bulkAll (xs.map datS) ≤ 101 * xs.length ∧ PyData.depthAll (xs.map datS) = 0
  | [], _ => ⟨.nil, rfl, Nat.le_refl _, rfl⟩
  | y :: ys, h => by
    rw [List.all_cons, Bool.and_eq_true] at h
    obtain ⟨h1, h2, h3, h4⟩ := dqS (b := b) (K := K) (H := H) h.1
    obtain ⟨g1, g2, g3, g4⟩ := dqSs h.2
    rw [List.map_cons]
    refine ⟨.cons h1 g1, by simp only [smQL, h2, g2, Bool.and_true], ?_, ?_⟩
    · simp only [PyData.bulkAll, List.length_cons]
      omega
    · simp only [PyData.depthAll, h4, g4]
      rfl
/-- a list of scalars: its text hangs on them alone -/
theorem shq_lsc (h : SqL K H a xs) (i : xs.all smS = true) (l : xs.length ≤ 3000) : Shq K H (.ref a) (PyData.list (xs.map datS)).shown := by
  obtain ⟨g1, g2, g3, g4⟩ := dqSs (b := false) (K := K) (H := H) i
  exact shq_of (b := false) (.lst (fun z => Bool.noConfusion z) h g1) (by simpa only [smQ] using g2) (by simp only [PyData.bulk]; omega) (by simp only [PyData.depth]; omega)
theorem shq_tsc (h : SqT K H a xs) (i : xs.all smS = true) (l : xs.length ≤ 3000) : Shq K H (.ref a) (PyData.tuple (xs.map datS)).shown := by
  obtain ⟨g1, g2, g3, g4⟩ := dqSs (b := false) (K := K) (H := H) i
  exact shq_of (b := false) (.tup h g1) (by simpa only [smQ] using g2) (by simp only [PyData.bulk]; omega) (by simp only [PyData.depth]; omega)
end
/-! ## 30. odd things -/
/-- a thing that is no number of any use; fp: its lists; m: how many things a list of it has at most -/
inductive OddV (H : Hp) (m : Nat) : List Addr → V → Prop
  | sc {v : V} (h : smS v = true) (hw : ∀ lo hi, 0 ≤ lo → wholeV v lo hi = false) (hc : countV v = false) : OddV H m [] v
  | tup {a : Addr} {xs : List V} (e : H a = some (.tup xs)) (h : ∀ y ∈ xs, smS y = true) (l : xs.length ≤ 5) : OddV H m [] (.ref a)
  | dK {a : Addr} {kvs : List (Key × V)} (e : H a = some (.dK kvs)) (h : ∀ q ∈ kvs, smS (kV q.1) = true ∧ smS q.2 = true) (l : kvs.length ≤ 5) : OddV H m [] (.ref a)
  | lst {a : Addr} {xs : List V} {fp : List Addr} (e : H a = some (.lst xs)) (ns : a ≠ sysModules) (l : xs.length ≤ m) (h : ∀ y ∈ xs, smS y = true ∨ ∃ c ∈ fp, y = .ref c) (na : a ∉ fp) (hf : ∀ c ∈ fp, c ≠ sysModules ∧ ∃ ys, H c = some (.lst ys) ∧ (∀ y ∈ ys, smS y = true) ∧ ys.length ≤ 5) : OddV H m (a :: fp) (.ref a)
section
variable {K : PySem.W.Frag} {H H' : Hp} {m n : Nat} {fp : List Addr} {v : V} {bx : Addr}
/-- what may change -/
theorem OddV.keep (o : OddV H m fp v) (k : ∀ b ∈ fp, H' b = H b) (t : ∀ b xs, H b = some (.tup xs) → H' b = some (.tup xs)) (d : ∀ b kvs, H b = some (.dK kvs) → H' b = some (.dK kvs)) (l : m ≤ n) : OddV H' n fp v := by
  cases o with
  | sc h hw hc => exact .sc h hw hc
  | tup e h l => exact .tup (t _ _ e) h l
  | dK e h l => exact .dK (d _ _ e) h l
  | lst e ns l1 h na hf =>
    exact .lst (by rw [k _ List.mem_cons_self]; exact e) ns (by omega) h na fun c hc => by
      obtain ⟨h1, ys, h2, h3⟩ := hf c hc
      exact ⟨h1, ys, by rw [k _ (List.mem_cons_of_mem _ hc)]; exact h2, h3⟩
/-- the lists among them stand -/
theorem OddV.there (o : OddV H m fp v) : ∀ b ∈ fp, ∃ xs, H b = some (.lst xs) := by
  cases o with
  | sc h hw hc => exact fun b z => nomatch z
  | tup e h l => exact fun b z => nomatch z
  | dK e h l => exact fun b z => nomatch z
  | lst e ns l1 h na hf =>
    intro b hb
    rcases List.mem_cons.mp hb with z | z
    · exact ⟨_, by rw [z]; exact e⟩
    · obtain ⟨_, ys, h2, _⟩ := hf b z
      exact ⟨ys, h2⟩
theorem OddV.same (o : OddV H m fp v) (s : Same H H') : OddV H' m fp v := o.keep (fun b hb => by
    obtain ⟨xs, e⟩ := o.there b hb
    rw [e]; exact s _ _ e) (fun b xs e => s _ _ e) (fun b kvs e => s _ _ e) (Nat.le_refl _)
/-- what stands at bx, a list that is none of these, may change -/
theorem OddV.but {xs : List V} (o : OddV H m fp v) (eb : H bx = some (.lst xs)) (n : bx ∉ fp) (s : But bx H H') : OddV H' m fp v := o.keep (fun b hb => by
    obtain ⟨xs, e⟩ := o.there b hb
    rw [e]; exact s _ _ (fun z => n (z ▸ hb)) e) (fun b xs e => s _ _ (fun z => by rw [z, eb] at e; exact nomatch e) e) (fun b kvs e => s _ _ (fun z => by rw [z, eb] at e; exact nomatch e) e) (Nat.le_refl _)
theorem OddV.wc (o : OddV H m fp v) : WC K H v ∧ countV v = false ∧ ∀ lo hi, 0 ≤ lo → wholeV v lo hi = false := by
  cases o with
  | @sc v h hw hc =>
    refine ⟨?_, hc, hw⟩
    cases v with
    | int i => exact .inl ⟨i, rfl⟩
    | bl b => exact .inr (.inl ⟨b, rfl⟩)
    | non => exact .inr (.inr ⟨isa_non, fun _ _ => rfl, rfl⟩)
    | str z => exact .inr (.inr ⟨isa_str, fun _ _ => rfl, rfl⟩)
    | _ => exact nomatch h
  | tup e h l => exact ⟨.inr (.inr ⟨isa_tup e, fun _ _ => rfl, rfl⟩), rfl, fun _ _ _ => rfl⟩
  | dK e h l => exact ⟨.inr (.inr ⟨isa_dK e, fun _ _ => rfl, rfl⟩), rfl, fun _ _ _ => rfl⟩
  | lst e ns l1 h na hf => exact ⟨.inr (.inr ⟨isa_lst e, fun _ _ => rfl, rfl⟩), rfl, fun _ _ _ => rfl⟩
theorem OddV.it (o : OddV H m fp v) : ItQ true K H (2000 + 700 * m) v := by
  cases o with
  | sc h hw hc => exact ((itd_sc h).q (by decide)).mono (by omega)
  | tup e h l => exact ((itd_tup (m := 100) (k := 0) (M := 2000) (sqT e) (fun y hy => itd_sc (h y hy)) (by omega)).q (by decide)).mono (by omega)
  | dK e h l => exact ((itd_dK e h l).q (by decide)).mono (by omega)
  | lst e ns l1 h na hf =>
    refine ((itd_lst (m := 600) (k := 1) (M := 2000 + 700 * m) (sqL e) (fun _ => ns) (fun y hy => ?_) (by
      have := Nat.mul_le_mul_left 601 l1
      omega)).q (by decide)).mono (by omega)
    rcases h y hy with z | ⟨c, hc, rfl⟩
    · exact (itd_sc z).mono (by omega) (by omega)
    · obtain ⟨n1, ys, h2, h3, h4⟩ := hf c hc
      exact (itd_lst (m := 100) (k := 0) (M := 600) (sqL h2) (fun _ => n1) (fun y hy => itd_sc (h3 y hy)) (by omega)).mono (by omega) (by omega)
/-- a list among them grows by a scalar -/
theorem OddV.grow {a : Addr} {xs : List V} {y : V} (o : OddV H m fp v) (ea : H a = some (.lst xs)) (hy : smS y = true) (h : v = .ref a ∨ a ∉ fp) : OddV (upd H a (.lst (xs ++ [y]))) (m + 1) fp v := by
  rcases h with rfl | h
  · cases o with
    | sc h hw hc => exact nomatch h
    | tup e h l => rw [ea] at e; exact nomatch e
    | dK e h l => rw [ea] at e; exact nomatch e
    | @lst _ xs2 fp2 e ns l1 h na hf =>
      rw [ea] at e
      obtain rfl : xs = xs2 := by injection (Option.some.inj e)
      refine .lst upd_same ns (by rw [List.length_append]; exact Nat.succ_le_succ l1) (fun z hz => ?_) na fun c hc => ?_
      · rcases List.mem_append.mp hz with z1 | z1
        · exact h z z1
        · rw [List.mem_singleton.mp z1]; exact .inl hy
      · obtain ⟨n1, ys, h2, h3⟩ := hf c hc
        exact ⟨n1, ys, by rw [upd_ne (fun q => na (by rw [← q]; exact hc))]; exact h2, h3⟩
  · refine o.keep (fun b hb => upd_ne fun z => h (z ▸ hb)) (fun b ys e => ?_) (fun b kvs e => ?_) (Nat.le_succ _)
    · rw [upd_ne (fun z => by rw [z, ea] at e; exact nomatch e)]; exact e
    · rw [upd_ne (fun z => by rw [z, ea] at e; exact nomatch e)]; exact e
/-- isinstance(v, list) -/
theorem OddV.isl (o : OddV H m fp v) : (IsA K H v "list" false ∧ fp = []) ∨ ∃ a xs, v = .ref a ∧ H a = some (.lst xs) ∧ a ∈ fp ∧ xs.length ≤ m := by
  cases o with
  | @sc v h hw hc =>
    refine .inl ⟨?_, rfl⟩
    cases v with
    | int i => exact isa_int
    | bl b => exact isa_bl
    | non => exact isa_non
    | str z => exact isa_str
    | _ => exact nomatch h
  | tup e h l => exact .inl ⟨isa_tup e, rfl⟩
  | dK e h l => exact .inl ⟨isa_dK e, rfl⟩
  | lst e ns l1 h na hf => exact .inr ⟨_, _, rfl, e, List.mem_cons_self, l1⟩
end
end Bk

namespace Bk
open PySem PySem.Spec PySem.Calls PyProof.Rows L2
/-! ## 31. own exceptions made with keywords, as values -/
section
variable {M : Model} {prog : Program} {w : World} {A : Around} {E : Value → Shared → Prop} {R : Result → Shared → Prop} {h : Heap} {g : Array GenState} {d : Drawn} {t : Nat} {os : OsState}
variable {nm q : Str} {C N : Addr} {bs bm bmB : List Value} {hdct : Bool} {sn : List Str} {sub : List Value} {ab : Bool} {col : Option Bool} {dd : Option Addr} {k0 k1 k2 k3 k5 : Option Value} {B newId i0 IB initId : String} {rest : List Value}
variable {kw : List (Str × Value)}
theorem checkTypeK {Q : Unit → Shared → Prop} (hC : h.get? C = some (excClassObj nm q C N bs bm hdct sn sub ab col dd k0 k1 k2 k3 k5 newId)) (hq : Q () ⟨h, g, d, t, os⟩) : wpAny M A (checkBuiltinCall "type.__call__" ⟨.ref C :: rest, kw⟩) Q E ⟨h, g, d, t, os⟩ := by
  have f3 := tc_sub
  have hT : (⟨h, g, d, t, os⟩ : Shared).TypeIs (.ref C) "type" := ⟨_, hC, rfl⟩
  simp only [checkBuiltinCall, tc_kind, tc_split]
  repeat (any_goals (first | assumption | with_reducible refine wpAny_loadPart_at hC ?_ | with_reducible refine wpAny_onRaise ?_ | with_reducible refine wpAny_map ?_ | wp_step))
theorem checkNewK (F : ExcBaseFacts B newId i0 bmB) (hB : bm.contains (.type B) = true) {Q : Unit → Shared → Prop} (hC : h.get? C = some (excClassObj nm q C N bs bm hdct sn sub ab col dd k0 k1 k2 k3 k5 newId)) (hq : Q () ⟨h, g, d, t, os⟩) :
    wpAny M A (checkBuiltinCall newId ⟨.ref C :: rest, kw⟩) Q E ⟨h, g, d, t, os⟩ := by
  have cB : (Value.ref C :: bm).contains (.type B) = true := by rw [List.contains_cons, hB, Bool.or_true]
  have star := F.noStar
  simp only [checkBuiltinCall, F.newKind, F.newSplit, F.newRow]
  repeat (first | refine wpAny_loadPart_at hC ?_ | (refine wpAny_isSubtype_exc hC ?_; rw [cB]) | refine wpAny_staticBase_exc hC ?_ | refine wpAny_madeBy_exc hC ?_ | simp only [bne_self_eq_false, Bool.false_eq_true, if_false] | wp_step)
  exact hq
theorem newK (F : ExcBaseFacts B newId i0 bmB) (hB : bm.contains (.type B) = true) (hA : bm.contains (.type "AttributeError") = false) (hN : bm.contains (.type "NameError") = false) (hC : h.get? C = some (excClassObj nm q C N bs bm hdct sn sub ab col dd k0 k1 k2 k3 k5 newId)) (hrest : rest.length ≤ sizeLine)
    (hq : R (.ok (.ret (.ref (h.objs.size + 1)))) ⟨(h.push (PySem.W.kdv_tup rest)).push (PySem.HandSPX.excO C h.objs.size), g, d, t, os⟩) : codeAny (model prog w) A (.builtin newId ⟨.ref C :: rest, kw⟩) R ⟨h, g, d, t, os⟩ := by
  have hends := F.ends
  have cB : (Value.ref C :: bm).contains (.type B) = true := by rw [List.contains_cons, hB, Bool.or_true]
  have cA : (Value.ref C :: bm).contains (.type "AttributeError") = false := by rw [List.contains_cons, hA]; rfl
  have cN : (Value.ref C :: bm).contains (.type "NameError") = false := by rw [List.contains_cons, hN]; rfl
  refine codeAny_builtinAt F.entry ?_
  unfold Builtin.«BaseException.__new__»
  refine PySem.wpAt_bind ?_
  show PySem.wpAt _ _ _ (stack >>= _) _ _ _
  refine PySem.wpAt_bind (PySem.wpAt_stack fun p below => PySem.wpAt_of_wpAny ?_)
  wp_walk
  refine PySem.wpAt_of_wpAny ?_
  rw [F.owner]
  repeat (first | with_reducible refine wpAny_madeHere_exc F.canon hC ?_ | with_reducible refine wpAny_loadPart_at hC ?_ | (with_reducible refine wpAny_isSubtype_exc hC ?_; first | rw [cB] | rw [cA] | rw [cN]) | wp_step)
  show R _ _
  rw [Heap.size_push]
  exact hq
theorem typeCallK (F : ExcBaseFacts B newId i0 bmB) (hB : bm.contains (.type B) = true) (hA : bm.contains (.type "AttributeError") = false) (hN : bm.contains (.type "NameError") = false) {fI : Addr} {Q : Fin → Shared → Prop} (hC : h.get? C = some (excClassObj nm q C N bs bm hdct sn sub ab col dd k0 k1 k2 k3 k5 newId))
    (hi : PySem.W.Looks (model prog w) h (typeLookup (.ref C) "__init__") (some (.ref fI))) (hb : ∀ self, PySem.W.Looks (model prog w) h (bindSpecial (.ref fI) self) (.ref fI, [self])) (hrest : rest.length ≤ sizeLine)
    (hq : codeAny (model prog w) A (.call (.ref fI) ⟨.ref (h.objs.size + 1) :: rest, kw⟩) (fun r s' => match r with | .ok (.ret v) => v = .none ∧ Q (.done (.ret (.ref (h.objs.size + 1)))) s' | .ok _ => False | .error e => E e s') ⟨(h.push (PySem.W.kdv_tup rest)).push (PySem.HandSPX.excO C h.objs.size), g, d, t, os⟩) :
    wpAny (model prog w) A (Builtin.«type.__call__» ⟨.ref C :: rest, kw⟩) Q E ⟨h, g, d, t, os⟩ := by
  repeat (first | with_reducible refine wpAny_loadPart_at hC ?_ | with_reducible refine wpAny_madeBy_exc hC ?_ | wp_step)
  refine codeAny_call_builtin_code (Code.quiet_builtin _ F.quiet) (checkNewK F hB hC ?_)
  refine newK F hB hA hN hC hrest ?_
  show wpAny _ _ _ _ _ _
  have k : ∀ c o, h.get? c = some o → ((h.push (PySem.W.kdv_tup rest)).push (PySem.HandSPX.excO C h.objs.size)).get? c = some o := fun c o e => Heap.get?_push_of_some _ (Heap.get?_push_of_some _ e)
  have hC1 := k _ _ hC
  have hget : ((h.push (PySem.W.kdv_tup rest)).push (PySem.HandSPX.excO C h.objs.size)).get? (h.objs.size + 1) = some (PySem.HandSPX.excO C h.objs.size) := by heap_get
  have cC : (Value.ref C :: bm).contains (.ref C) = true := by simp
  have i1 := hi.keeps k
  have b1 := (hb (.ref (h.objs.size + 1))).keeps k
  unfold isInstance
  repeat (first | with_reducible refine wpAny_loadPart_at hget ?_ | (with_reducible refine wpAny_isSubtype_exc hC1 ?_; rw [cC]) | wp_step)
  show wpAny _ _ (typeLookup (.ref C) _) _ _ _
  refine i1.at (wpAny_holding (wpAny_bind (b1.at (wpAny_bind (wpAny_call (codeAny_mono hq fun r s' z => ?_))))))
  rcases r with e | (v | _ | _ | _) <;> first | exact z | exact z.elim | skip
  obtain ⟨rfl, z⟩ := z
  first
    | exact wpAny_pure (wpAny_pure z)
    | (wp_walk; exact z)
theorem callK (F : ExcBaseFacts B newId i0 bmB) (hB : bm.contains (.type B) = true) (hA : bm.contains (.type "AttributeError") = false) (hN : bm.contains (.type "NameError") = false) {fI : Addr} (hC : h.get? C = some (excClassObj nm q C N bs bm hdct sn sub ab col dd k0 k1 k2 k3 k5 newId))
    (hi : PySem.W.Looks (model prog w) h (typeLookup (.ref C) "__init__") (some (.ref fI))) (hb : ∀ self, PySem.W.Looks (model prog w) h (bindSpecial (.ref fI) self) (.ref fI, [self])) (hrest : rest.length ≤ sizeLine)
    (hq : codeAny (model prog w) (A.under (.builtin "type.__call__" ⟨.ref C :: rest, kw⟩)) (.call (.ref fI) ⟨.ref (h.objs.size + 1) :: rest, kw⟩) (PySem.W.InitBack (h.objs.size + 1) R) ⟨(h.push (PySem.W.kdv_tup rest)).push (PySem.HandSPX.excO C h.objs.size), g, d, t, os⟩) :
    codeAny (model prog w) A (.call (.ref C) ⟨rest, kw⟩) R ⟨h, g, d, t, os⟩ := by
  have f1 := PySem.tc_lookup
  have f2 := PySem.tc_bind (.ref C)
  have hTy : (⟨h, g, d, t, os⟩ : Shared).TypeIs (.ref C) "type" := ⟨_, hC, rfl⟩
  refine codeAny_of_tree ?_
  show wpAny _ _ (callAny (.ref C) _) _ _ _
  repeat (any_goals (first | assumption | with_reducible refine wpAny_loadPart_at hC ?_ | wp_step))
  refine ⟨rfl, codeAny_call_builtin_at (Code.quiet_builtin _ (by decide +kernel)) entry_typeCall (checkTypeK hC (typeCallK F hB hA hN hC hi hb hrest ?_))⟩
  refine codeAny_mono hq fun r s' z => ?_
  rcases r with e | (v | _ | _ | _) <;> exact z
end
end Bk

namespace Bk
open PySem PySem.Spec PySem.Calls PyProof.Rows L2
/-! ## 32. own exceptions as values -/
section
open Builtin Builtin.ObjectAttr
variable {prog : Program} {w : World} {A : Around} {E : Value → Shared → Prop} {R : Result → Shared → Prop} {hp : Heap} {g : Array GenState} {d : Drawn} {t : Nat} {os : OsState}
/-- a further field -/
theorem osaT2 {K : PySem.W.Frag} {b : Bs} {name : Str} {tk : Tok} {v : Value} {x C dx : Addr} {fv : Array Value} {cd : ClassData} {m0 : Str → Option Value} {nl : List Str} (X : K.In hp) (hx : hp.get? x = some { cls := .ref C, dict := some dx, data := .fields fv }) (hns : hp.Ns1 dx m0) (hw : Within m0 nl) (hz : nl.length ≤ 1000) (hcd : PySem.W.clsIn K C = some cd)
    (hm : Tail b cd.mro) (hh : cd.hasDict = true) (ha : PySem.W.findIn K (.ref C) name = some none) (hq : ∀ h' tk', (∀ c o, c ≠ dx → hp.get? c = some o → h'.get? c = some o) → h'.Ns1 dx (fun y => if y = name then some v else m0 y) → R (.ok (.ret .none)) ⟨h', g, d, tk', os⟩) :
    codeAny (model prog w) A (.call (.builtin "object.__setattr__") ⟨[.ref x, .str name tk, v], []⟩) R ⟨hp, g, d, t, os⟩ := by
  obtain ⟨oD, _, _, hoD, _, _⟩ := hns.count hw
  have I : PySem.W.InstAt hp x { cls := .ref C, dict := some dx, data := .fields fv } C (some oD) := ⟨hx, rfl, rfl, hoD⟩
  have SF := F.store_object
  have hob : cd.mro.contains (.type "object") = true := (hm.has "object").trans b.obj
  have isO : PySem.W.Looks (model prog w) hp (isInstance (.ref x) (.type "object")) true :=
    I.type.andThen (PySem.W.looks_mroIn X (by unfold PySem.W.mroIn; rw [hcd, Option.bind_some, if_neg (by rw [hm.ne]; decide), hob]))
  have lineL : PySem.W.Looks (model prog w) hp (mroOf (.ref C)) cd.mro := (PySem.W.looks_clsIn X hcd).andThen .now
  have noTaker : PySem.W.Looks (model prog w) hp (storeTaker? none) none := .now
  have clsL : PySem.W.Looks (model prog w) hp (classData C) cd := PySem.W.looks_clsIn X hcd
  refine codeAny_call_builtin SF.slot.plain SF.entry (@PySem.W.check_slot (model prog w) _ _ ⟨hp, g, d, t, os⟩ "object.__setattr__" "object" "__setattr__" (.ref x) [.str name tk, v] [] _ SF.kind SF.split isO (SF.args (.ref x) (.str name tk) v) ?_)
  rw [PySem.W.osa_eq, refuse_eq]
  refine wpAny_bind (wpAny_bind (I.type.at (wpAny_bind (lineL.at ?_))))
  rw [hm.pass]
  refine wpAny_pure (wpAny_bind (I.type.at (wpAny_bind ((PySem.W.looks_findIn X ha).at (wpAny_bind (noTaker.at ?_))))))
  show wpAny _ _ (storeInOwnDict (.ref x) (.ref C) (.str name tk) name v false) _ _ _
  obtain ⟨nm, bs, mro, ns, qn, hd, sn, sb, ab, col, del⟩ := cd
  dsimp only at hh
  subst hh
  unfold storeInOwnDict ownDictForStores
  repeat (first | with_reducible refine PySem.OEX.store_in_old hns hw hz ?_ | with_reducible refine wpAny_loadPart_at hx ?_ | with_reducible refine clsL.at ?_ | wp_step)
  exact fun h' tk' hn' hs => hq h' tk' (fun c o hc ho => (hs.2 c hc).trans ho) hn'
end
section
variable {X : Cx} {pins : List (Addr × Obj)} {σ : L2.St} {H : Hp} {s : Shared} {a C dx : Addr} {f : Str} {y : V} {u : Value} {b : Bs} {fs : List (Str × V)} {Q : Unit → Shared → Prop} {E : Value → Shared → Prop} {A : Around}
theorem ost_oldT (T : OexT X.K b C) (I : Inv X pins σ H s) (e : H a = some (exo a C (some dx))) (ed : H dx = some (exd dx fs)) (hl : fs.length ≤ 900) (hno : PySem.W.findIn X.K (.ref C) f = some none) (ry : RelV y u)
    (h : ∀ s', Inv X pins σ (upd H dx (exd dx ((f, y) :: fs))) s' → Q () s') : wpAny (model X.prog X.w) A (setAttr (.ref a) f u) Q E s := by
  obtain ⟨nm, q, N, bs, bm, sn, sub, ab, col, dd, k0, k1, k2, k3, k5, hC, hbm⟩ := T.cls
  obtain ⟨t1, ho⟩ := exo_at I.hok e
  obtain ⟨mA, hns, rel⟩ := exd_at I.hok ed
  have hw := within_of rel
  obtain ⟨hp, g, d, t, os⟩ := s
  obtain ⟨oD, _, _, hoD, _, _⟩ := hns.count hw
  have hcl : PySem.W.clsIn X.K C = some { name := nm, bases := bs, mro := .ref C :: bm, ns := N, qualname := q, hasDict := true, slotNames := sn, subclasses := sub, abstract := ab, collection := col, hasDel := false } := by
    unfold PySem.W.clsIn
    rw [hC] <;> rfl
  refine PySem.W.set_plain I.kIn (ox := { cls := .ref C, dict := some dx, data := .fields #[.ref t1, .none, .none, .none, .bool false, .none] }) (od := some oD) ⟨ho, rfl, rfl, hoD⟩ T.sa ?_
  refine osaT2 I.kIn ho hns hw (by rw [List.length_map]; omega) hcl (.own C hbm) rfl hno fun h' tk' k hn => ?_
  have hd : ∃ o, h'.get? dx = some o := by
    obtain ⟨o, _, _, e', _⟩ := hn
    exact ⟨o, e'⟩
  exact h _ (I.write (t' := tk') (x := dx) (e := dx) (o := exd dx ((f, y) :: fs)) (by rw [ed]; exact True.intro) (.inl rfl) k hd (exd_ok hn (relO_put ry rel)))
end
/-- self.f = e, a further one -/
def tOsO (K : PySem.W.Frag) (f : Str) (to te : TE) : TS := fun D σ H => te σ H fun y H1 => to σ H1 fun x H2 => ∃ (b : Bs) (a C dx : Addr) (fs : List (Str × V)), x = .ref a ∧ OexT K b C ∧ PySem.W.findIn K (.ref C) f = some none ∧
  H2 a = some (exo a C (some dx)) ∧ H2 dx = some (exd dx fs) ∧ fs.length ≤ 900 ∧ D.nx σ (upd H2 dx (exd dx ((f, y) :: fs)))
theorem ps_osO {X : Cx} {o e : Expr} {to te : TE} {f : Str} {p' pos : Pos} (ho : PE X o to) (he : PE X e te) (hs : swapsWith e (some (.Attribute o f p')) pos.line X.env = pure false := by rfl) : PS X (.Assign [.Attribute o f p'] e pos) (tOsO X.K f to te) := by
  refine ⟨fun pins s σ H D I h => plainObj_wpAny_Assign_Attribute (thn (he.run pins s σ H _ I h) fun v s1 ⟨y, H1, I1, r1, q1⟩ => thn (ho.run pins s1 σ H1 _ I1 q1) fun u s2 ⟨x, H2, I2, r2, b, a, C, dx, fs, ex, T, hno, ea, ed, hl, q⟩ => ?_) hs⟩
  subst ex
  obtain rfl : u = Value.ref a := r2
  exact ost_oldT T I2 ea ed hl hno r1 fun s' J => ⟨σ, _, J, q⟩
/-- C(..), C an own exception class: a value -/
structure CalO (P : Program) (w : World) (K : PySem.W.Frag) (mg : Str → Option Value) (base : Heap) (k n : Nat) (ks : List Str) (C : Addr) (x : Str) (sp : Sp) (gV : List V → List V → List V) : Prop where
  ex : ∃ (b : Bs) (fI : Addr) (fd : FuncData) (ps : List Str) (g : List Value → List Value → List Value), OexT K b C ∧ PySem.W.findIn K (.ref C) "__init__" = some (some (.ref fI)) ∧ PySem.W.typeIn K (.ref fI) = some (.type "function") ∧ FnOk P w K mg base CX0 k fI fd ps sp ∧ KBn K fd ps (n + 1) ks g gV ∧ mg x = some (.ref C)
theorem kbn_of {K : PySem.W.Frag} {fd : FuncData} {ps : List Str} {m : Nat} (b : Binds K fd ps []) (h : ps.length = m) : KBn K fd ps m [] (fun us _ => us) (fun vs _ => vs) :=
  ⟨fun s us ws X l1 l2 => by
    have z := b s us X (by rw [List.append_nil, l1, h])
    rw [List.append_nil] at z
    exact z, fun r1 _ => r1⟩
def tMkO1 (C : Addr) (n m : Nat) (sp : Sp) (gV : List V → List V → List V) (t tk : TA) : TE := fun σ H Q => t σ H fun vs H1 => tk σ H1 fun zs H2 => vs.length = n ∧ zs.length = m ∧ n ≤ 1000 ∧ ∀ a, H2 a = none →
  sp (gV (.ref a :: vs) zs) (upd H2 a (exo a C none)) (fun v H3 => v = .non ∧ Q (.ref a) H3) (fun _ _ _ => False)
section
variable {X : Cx} {k j n : Nat} {ks : List Str} {C : Addr} {x : Str} {sp : Sp} {gV : List V → List V → List V} {t tk : TA} {e : Expr} {es : List Expr} {kws : List Keyword} {p pos : Pos}
theorem run_oeK {b : Bs} {fI : Addr} {fd : FuncData} {ps : List Str} {g : List Value → List Value → List Value} {pins : List (Addr × Obj)} {σ : L2.St} {H : Hp} {s : Shared} {Q : VK} {us ws : List Value} {vs zs : List V} (T : OexT X.K b C) (iC : PySem.W.findIn X.K (.ref C) "__init__" = some (some (.ref fI))) (tI : PySem.W.typeIn X.K (.ref fI) = some (.type "function"))
    (F1 : FnOk X.prog X.w X.K X.mg X.base CX0 k fI fd ps sp) (hr : Room (k + 1) X.A) (hb : KBn X.K fd ps (n + 1) ks g gV) (I1 : Inv X pins σ H s) (r1 : Vals vs us) (rz : Vals zs ws) (l1 : vs.length = n) (l2 : zs.length = ks.length) (hn : n ≤ 1000)
    (q1 : ∀ a, H a = none → sp (gV (.ref a :: vs) zs) (upd H a (exo a C none)) (fun v H3 => v = .non ∧ Q (.ref a) H3) (fun _ _ _ => False)) : wpAny (model X.prog X.w) X.A (call (.ref C) us (ks.zip ws)) (EP X pins σ Q) X.xe s := by
  obtain ⟨nm, q, N, bs, bm, sn, sub, ab, col, dd, k0, k1, k2, k3, k5, hC, hbm⟩ := T.cls
  obtain ⟨hp, g1, dr, tk, os⟩ := s
  have hsz : hp.objs.size ≤ hp.objs.size + 1 := Nat.le_succ _
  have hq := q1 (hp.objs.size + 1) (I1.hok.fresh hsz)
  have hget : ((hp.push (PySem.W.kdv_tup us)).push (PySem.HandSPX.excO C hp.objs.size)).get? (hp.objs.size + 1) = some (PySem.HandSPX.excO C hp.objs.size) := by heap_get
  have kk : ∀ c o, hp.get? c = some o → ((hp.push (PySem.W.kdv_tup us)).push (PySem.HandSPX.excO C hp.objs.size)).get? c = some o := fun c o z => Heap.get?_push_of_some _ (Heap.get?_push_of_some _ z)
  have I2 : Inv X pins σ (upd H (hp.objs.size + 1) (exo (hp.objs.size + 1) C none)) ⟨(hp.push (PySem.W.kdv_tup us)).push (PySem.HandSPX.excO C hp.objs.size), g1, dr, tk, os⟩ :=
    I1.laid (t' := tk) (a := hp.objs.size + 1) (o := exo (hp.objs.size + 1) C none) (h' := (hp.push (PySem.W.kdv_tup us)).push (PySem.HandSPX.excO C hp.objs.size)) kk hsz (exo_ok hget)
  have rr1 : Vals (V.ref (hp.objs.size + 1) :: vs) (Value.ref (hp.objs.size + 1) :: us) := .cons rfl r1
  have e1 : (Value.ref (hp.objs.size + 1) :: us).length = n + 1 := rr1.length.symm.trans (congrArg Nat.succ l1)
  have e2 : ws.length = ks.length := rz.length.symm.trans l2
  have hus : us.length ≤ sizeLine := by rw [← Paired.length r1, l1, sizeLine_eq]; omega
  obtain ⟨i0, bmB, bf⟩ := b.f
  refine wpAny_call (callK bf ((hbm.has _).trans b.hB) ((hbm.has _).trans b.hA) ((hbm.has _).trans b.hN) (I1.kIn _ _ hC) (PySem.W.looks_findIn I1.kIn iC) (fun self => PySem.W.bind_fn I1.kIn self tI) hus
    (codeAny_mono (F1.run _ X.stack _ _ ⟨Value.ref (hp.objs.size + 1) :: us, ks.zip ws⟩ (g (Value.ref (hp.objs.size + 1) :: us) ws) _ _ (fun _ _ _ => False) (hr.make C us (ks.zip ws)) (I2.env0.make C us (ks.zip ws)) (hb.to _ (Value.ref (hp.objs.size + 1) :: us) ws I2.kIn e1 e2) (hb.rel rr1 rz) hq) fun r s' hq' => ?_))
  match r, hq' with
  | .error er, hq' => exact (hq' : False).elim
  | .ok (.ret u), hq' =>
    obtain ⟨v, H2, I3, rv, ev, q2⟩ := I2.after hq'
    subst ev
    exact ⟨rv, .ref (hp.objs.size + 1), H2, I3, rfl, q2⟩
theorem pe_oeP (c : CalO X.prog X.w X.K X.mg X.base k n [] C x sp gV) (hr : Room j X.A) (hk : k + 1 ≤ j) (hg : Gl X x) (ha : PA X (e :: es) t)
    (hdb : (x == ("__debug__" : Str)) = false := by decide) (he : starEach (e :: es) X.env = (false, eval e X.env) :: starEach es X.env := by rfl) (hpl : (backTo pos (starEach es X.env)).any (·.1) = false := by rfl) :
    PE X (.Call (.Name x p) (e :: es) [] pos) (tMkO1 C n 0 sp gV t tNil) := by
  obtain ⟨b, fI, fd, ps, g, T, iC, tI, F1, hb, hm⟩ := c.ex
  refine ⟨fun pins s σ H Q I h => ?_⟩
  refine wpAny_Call_Name_kw (ld_glob I hg hm ?_ hdb)
  refine PySem.W.callWith_K (h₀ := X.base) I.ok.mod.kin T.kC (thn (ha.run pos pins s σ H _ I h) fun us s1 ⟨vs, H1, I1, r1, l1, l2, hn, q1⟩ => ⟨I1.kIn, ?_⟩) he hpl
  exact run_oeK (ws := []) (zs := []) T iC tI F1 (hr.mono hk) hb I1 r1 .nil l1 rfl hn q1
theorem pe_oe0 (c : CalO X.prog X.w X.K X.mg X.base k 0 [] C x sp gV) (hr : Room j X.A) (hk : k + 1 ≤ j) (hg : Gl X x) (hdb : (x == ("__debug__" : Str)) = false := by decide) :
    PE X (.Call (.Name x p) [] [] pos) (tMkO1 C 0 0 sp gV tNil tNil) := by
  obtain ⟨b, fI, fd, ps, g, T, iC, tI, F1, hb, hm⟩ := c.ex
  refine ⟨fun pins s σ H Q I h => ?_⟩
  obtain ⟨_, _, hn, q1⟩ := h
  refine wpAny_Call_Name_kw (ld_glob I hg hm ?_ hdb)
  exact PySem.W.callWith_K0 I.kIn T.kC (run_oeK (us := []) (vs := []) (ws := []) (zs := []) T iC tI F1 (hr.mono hk) hb I .nil .nil rfl rfl hn q1)
theorem pe_oeK (c : CalO X.prog X.w X.K X.mg X.base k 0 ks C x sp gV) (hr : Room j X.A) (hk : k + 1 ≤ j) (hg : Gl X x) (hkw : PK X kws tk)
    (hall : (backToKw pos (keywordEach kws X.env)).all (·.1.isSome) = true := by rfl) (hks : (backToKw pos (keywordEach kws X.env)).filterMap (·.1) = ks := by rfl)
    (hdb : (x == ("__debug__" : Str)) = false := by decide) (hpl : ((backTo pos (starEach [] X.env)).any (·.1) || (backToKw pos (keywordEach kws X.env)).any (·.1.isNone)) = false := by rfl) :
    PE X (.Call (.Name x p) [] kws pos) (tMkO1 C 0 ks.length sp gV tNil tk) := by
  obtain ⟨b, fI, fd, ps, g, T, iC, tI, F1, hb, hm⟩ := c.ex
  refine ⟨fun pins s σ H Q I h => ?_⟩
  refine wpAny_Call_Name_kw (ld_glob I hg hm ?_ hdb)
  refine PySem.W.callWith_KW0 (h₀ := X.base) I.ok.mod.kin T.kC hall ?_ hpl
  refine thn (hkw.run pos pins s σ H _ I h) fun ws s2 ⟨zs, H2, I2, rz, _, l2, hn, q2⟩ => ⟨I2.kIn, ?_⟩
  rw [hks]
  exact run_oeK (us := []) (vs := []) T iC tI F1 (hr.mono hk) hb I2 .nil rz rfl l2 hn q2
end
section
variable {σ : L2.St} {H : Hp} {Q : VK} {C : Addr} {n m : Nat} {sp : Sp} {gV : List V → List V → List V} {t tk : TA}
theorem r_mkO1 (q : t σ H fun vs H1 => tk σ H1 fun zs H2 => vs.length = n ∧ zs.length = m ∧ n ≤ 1000 ∧ ∀ a, H2 a = none → sp (gV (.ref a :: vs) zs) (upd H2 a (exo a C none)) (fun v H3 => v = .non ∧ Q (.ref a) H3) (fun _ _ _ => False)) : tMkO1 C n m sp gV t tk σ H Q := q
end
/-- at a: an exception of the class at D; its own dict, if it has one, holds fs -/
def XVo (H : Hp) (a D : Addr) (d : Option Addr) (fs : List (Str × V)) : Prop := H a = some (exo a D d) ∧ match d with
  | none => fs = []
  | some dx => H dx = some (exd dx fs)
def rIsV (K : PySem.W.Frag) : List V → Hp → VK → Prop := fun xs H Q => ∃ (a D : Addr) (d : Option Addr) (fs : List (Str × V)) (c : V) (u : Value) (b : Bool), xs = [.ref a, c] ∧ XVo H a D d fs ∧ ExcC K D ∧ ClsV c u ∧ PySem.W.kitOne K (.ref D) u = some b ∧ Q (.bl b) H
theorem call_isV {X : Cx} : CallR X (.builtin "isinstance") (rIsV X.K) := by
  intro pins s σ H xs us Q I r h
  obtain ⟨a, D, d, fs, c, u, b, rfl, xv, C, k, e, q⟩ := h
  obtain ⟨u1, u2, rfl, r1, r2⟩ := vals2 r
  have e2 := k.eq r2
  subst e2
  obtain rfl : u1 = Value.ref a := r1
  obtain ⟨ho, hd⟩ := xv
  match d, ho, hd with
  | none, ho, _ =>
    obtain ⟨t1, g⟩ := exo_at I.hok ho
    exact PySem.W.kia_one (PySem.W.bk_kitx (od := none) C.hg C.hk C.hs C.hd C.ha C.hn C.ht C.hm) I.kIn ⟨g, rfl, rfl, trivial⟩ e (fun z => nomatch z) fun tk => ⟨.bl b, H, I.tok tk, rfl, q⟩
  | some dx, ho, hd =>
    obtain ⟨ox, od, mA, J, _, _⟩ := xv_inst I (show XV H a D dx fs from ⟨ho, hd⟩)
    exact PySem.W.kia_one (PySem.W.bk_kitx (ox := ox) (od := some od) C.hg C.hk C.hs C.hd C.ha C.hn C.ht C.hm) I.kIn J e (fun z => nomatch z) fun tk => ⟨.bl b, H, I.tok tk, rfl, q⟩
def tXv (K : PySem.W.Frag) (f : Str) (te : TE) : TE := fun σ H Q => te σ H fun x H1 => ∃ (a D dx : Addr) (fs : List (Str × V)) (v : V), x = .ref a ∧ XV H1 a D dx fs ∧ XfC K D ∧ PySem.W.findIn K (.ref D) f = some none ∧ fs.lookup f = some v ∧ Q v H1
theorem pe_xv {X : Cx} {e : Expr} {te : TE} {pos : Pos} {n : Str} (he : PE X e te) (hb : attributeBase e n X.env (eval e X.env) = eval e X.env := by rfl) : PE X (.Attribute e n pos) (tXv X.K n te) := by
  refine ⟨fun pins s σ H Q I h => attr_of hb (thn (he.run pins s σ H _ I h) fun u s1 ⟨x, H1, I1, rx, a, D, dx, fs, v, ex, xv, T, hno, l, q⟩ => ?_)⟩
  subst ex
  obtain rfl : u = Value.ref a := rx
  obtain ⟨ox, od, mA, J, hl, hr⟩ := xv_inst I1 xv
  obtain ⟨u, hu, ru⟩ := RelO.some_of (v := v) (o := mA n) (by rw [← l]; exact hr n)
  exact HandSPX.exc_get I1.kIn J T.ga T.gg T.exC (PySem.W.findObj_own T.hdC hno rfl (by rw [hl, hu])) (handed_of ru) ⟨v, H1, I1.tok _, ru, q⟩
theorem r_dispV {σ : L2.St} {H : Hp} {Q : VK} {k : Key} {v : V} {i : Nat} (hv : σ[i]? = some (some v)) (q : ∀ p H', H p = none → Same H H' → H' p = some (.dK [(k, v)]) → Q (.ref p) H') : tDisp [(tC (kV k), tVar i)] σ H Q := by
  intro p np
  refine ⟨v, hv, upd_same, [(k, v)], rfl, (by show 1 ≤ 15; decide), ?_⟩
  refine q p _ np (fun b o e => ?_) upd_same
  rw [upd_ne (ne_of_none e np), upd_ne (ne_of_none e np)]
  exact e
end Bk

open PySem PySem.Spec PyProof.Rows L2 Bk
local macro_rules | `(tactic| walk_at "go1") => `(tactic| with_reducible first
  | refine r_seq ?_ | refine r_asg ?_ | refine r_name ?_ | refine r_if ?_ | refine r_ret ?_ | refine r_next ?_ | refine r_drop ?_
  | refine r_op ?_ | refine r_un ?_ | refine r_c ?_ | refine r_I0 ?_ | refine r_lstB ?_ | refine r_mth ?_ | refine r_mthK ?_ | refine r_mkS ?_ | refine r_fld ?_ | refine r_par ?_ | refine r_mkO1 ?_ | refine r_U ?_ | refine r_nil ?_ | refine r_cons ?_ | refine r_call ?_ | refine r_callN ?_ | refine r_for ?_ | refine r_iList ?_ | refine r_iTup ?_ | refine r_iRng1 ?_ | refine r_iRng2 ?_ | refine r_mkV ?_ | refine r_dnewK ?_ | refine r_cb ?_
  | refine r_test ?_ | refine r_tB ?_ | refine r_isb ?_ | refine r_isv ?_ | refine r_not ?_ | refine r_and ?_ | refine r_or ?_ | refine r_andV ?_ | refine r_orV ?_ | refine r_notV ?_ | refine r_chain ?_ | refine r_ifE ?_
  | refine r_lst ?_ | refine r_tup ?_ | refine r_gSub ?_ | refine r_bm ?_
  | (apply r_var; focus (with_unfolding_all rfl))
  | refine iteT ?_ | refine iteF ?_ | refine iteNF ?_ | refine iteNT ?_ | refine r_m1 ?_ | refine r_sl ?_ | refine r_noPart ?_ | refine r_part ?_ | refine r_isi ?_
  | (refine r_eq ?_ ?_; focus (with_unfolding_all (first | rfl | decide))) | (refine r_ne ?_ ?_; focus (with_unfolding_all (first | rfl | decide))))
local macro_rules | `(tactic| walk_at "go") => `(tactic| repeat (walk_at "go1"))
namespace K82
open PySem PySem.Spec PyProof.Rows L2 Bk


def topS (i : Nat) : Stmt := PySem.Challenge.pw_guestsalone_k82_refusals_apart.main.body.getD i (.Pass ⟨0, 0, 0, 0⟩)
abbrev s_GuestError_init : Stmt := inClass (topS 1) 0
abbrev s_Missing_init : Stmt := inClass (topS 2) 0
abbrev s_Barred_init : Stmt := inClass (topS 3) 0
abbrev s_NoNumber_init : Stmt := inClass (topS 4) 0
abbrev s_NoName_init : Stmt := inClass (topS 5) 0
abbrev s_NoWord_init : Stmt := inClass (topS 6) 0
abbrev s_NoOp_init : Stmt := inClass (topS 7) 0
abbrev s_NoTruth_init : Stmt := inClass (topS 8) 0
abbrev s_NoBits_init : Stmt := inClass (topS 9) 0
abbrev s_Nought_init : Stmt := inClass (topS 10) 0
abbrev s_NoImage_init : Stmt := inClass (topS 11) 0
abbrev s_NoText_init : Stmt := inClass (topS 12) 0
abbrev s_NoStore_init : Stmt := inClass (topS 13) 0
abbrev s_NoKind_init : Stmt := inClass (topS 14) 0
abbrev s_NoLog_init : Stmt := inClass (topS 15) 0
abbrev s_NoShare_init : Stmt := inClass (topS 16) 0
abbrev s_NoSnapshot_init : Stmt := inClass (topS 17) 0
abbrev s_NoHouse_init : Stmt := inClass (topS 18) 0
abbrev s_NoDeed_init : Stmt := inClass (topS 19) 0
abbrev s_NoWorld_init : Stmt := inClass (topS 20) 0
abbrev s_NoPaper_init : Stmt := inClass (topS 21) 0
abbrev s_NoLine_init : Stmt := inClass (topS 22) 0
abbrev s_Doubled_init : Stmt := inClass (topS 23) 0
abbrev s_NoRow_init : Stmt := inClass (topS 24) 0
abbrev s_TooMuch_init : Stmt := inClass (topS 25) 0
abbrev s_NoGuest_init : Stmt := inClass (topS 26) 0
abbrev s_NoAsk_init : Stmt := inClass (topS 27) 0
abbrev s_NotOnRoad_init : Stmt := inClass (topS 28) 0
abbrev s_NotKept_init : Stmt := inClass (topS 29) 0
abbrev s_Ended_init : Stmt := inClass (topS 30) 0
abbrev s_Moving_init : Stmt := inClass (topS 31) 0
abbrev s_NotMoving_init : Stmt := inClass (topS 32) 0
abbrev s_Fallen_init : Stmt := inClass (topS 33) 0
abbrev s_Standing_init : Stmt := inClass (topS 34) 0
abbrev s_Full_init : Stmt := inClass (topS 35) 0
abbrev s_Parted_init : Stmt := inClass (topS 36) 0
abbrev s_Over_init : Stmt := inClass (topS 37) 0
abbrev s_cell_L : Stmt := topS 39
abbrev s_box_L : Stmt := topS 40
abbrev s_take_L : Stmt := topS 41
abbrev s_thing_L : Stmt := topS 42
abbrev s_by_place_L : Stmt := topS 43
abbrev s_by_place_more_L : Stmt := topS 44
abbrev s_by_name_L : Stmt := topS 45
abbrev s_by_name_more_L : Stmt := topS 46
abbrev s_classes_L : Stmt := topS 47
abbrev s_families_L : Stmt := topS 48
abbrev s_due_families_L : Stmt := topS 49
abbrev s_field_L : Stmt := topS 50
abbrev s_grown_L : Stmt := topS 51
abbrev s_right_L : Stmt := topS 52
abbrev s_two_right_L : Stmt := topS 53
abbrev s_base_L : Stmt := topS 54
abbrev s_law : Stmt := topS 55
theorem sc_GuestError_init : FnScope ["self", "text"] ["self", "text"] (defScope s_GuestError_init) := ⟨rfl, rfl, rfl, by decide +kernel, rfl, by decide +kernel, by decide +kernel⟩
theorem sc_Missing_init : FnScope ["self", "text"] ["self", "text"] (defScope s_Missing_init) := ⟨rfl, rfl, rfl, by decide +kernel, rfl, by decide +kernel, by decide +kernel⟩
theorem sc_Barred_init : FnScope ["self", "text"] ["self", "text"] (defScope s_Barred_init) := ⟨rfl, rfl, rfl, by decide +kernel, rfl, by decide +kernel, by decide +kernel⟩
theorem sc_NoNumber_init : FnScope ["self", "found"] ["self", "found"] (defScope s_NoNumber_init) := ⟨rfl, rfl, rfl, by decide +kernel, rfl, by decide +kernel, by decide +kernel⟩
theorem sc_NoName_init : FnScope ["self", "found"] ["self", "found"] (defScope s_NoName_init) := ⟨rfl, rfl, rfl, by decide +kernel, rfl, by decide +kernel, by decide +kernel⟩
theorem sc_NoWord_init : FnScope ["self", "found"] ["self", "found"] (defScope s_NoWord_init) := ⟨rfl, rfl, rfl, by decide +kernel, rfl, by decide +kernel, by decide +kernel⟩
theorem sc_NoOp_init : FnScope ["self", "found"] ["self", "found"] (defScope s_NoOp_init) := ⟨rfl, rfl, rfl, by decide +kernel, rfl, by decide +kernel, by decide +kernel⟩
theorem sc_NoTruth_init : FnScope ["self", "found"] ["self", "found"] (defScope s_NoTruth_init) := ⟨rfl, rfl, rfl, by decide +kernel, rfl, by decide +kernel, by decide +kernel⟩
theorem sc_NoBits_init : FnScope ["self", "found"] ["self", "found"] (defScope s_NoBits_init) := ⟨rfl, rfl, rfl, by decide +kernel, rfl, by decide +kernel, by decide +kernel⟩
theorem sc_Nought_init : FnScope ["self", "found"] ["self", "found"] (defScope s_Nought_init) := ⟨rfl, rfl, rfl, by decide +kernel, rfl, by decide +kernel, by decide +kernel⟩
theorem sc_NoImage_init : FnScope ["self", "found"] ["self", "found"] (defScope s_NoImage_init) := ⟨rfl, rfl, rfl, by decide +kernel, rfl, by decide +kernel, by decide +kernel⟩
theorem sc_NoText_init : FnScope ["self", "found"] ["self", "found"] (defScope s_NoText_init) := ⟨rfl, rfl, rfl, by decide +kernel, rfl, by decide +kernel, by decide +kernel⟩
theorem sc_NoStore_init : FnScope ["self", "found"] ["self", "found"] (defScope s_NoStore_init) := ⟨rfl, rfl, rfl, by decide +kernel, rfl, by decide +kernel, by decide +kernel⟩
theorem sc_NoKind_init : FnScope ["self", "found"] ["self", "found"] (defScope s_NoKind_init) := ⟨rfl, rfl, rfl, by decide +kernel, rfl, by decide +kernel, by decide +kernel⟩
theorem sc_NoLog_init : FnScope ["self", "found"] ["self", "found"] (defScope s_NoLog_init) := ⟨rfl, rfl, rfl, by decide +kernel, rfl, by decide +kernel, by decide +kernel⟩
theorem sc_NoShare_init : FnScope ["self", "found"] ["self", "found"] (defScope s_NoShare_init) := ⟨rfl, rfl, rfl, by decide +kernel, rfl, by decide +kernel, by decide +kernel⟩
theorem sc_NoSnapshot_init : FnScope ["self", "found"] ["self", "found"] (defScope s_NoSnapshot_init) := ⟨rfl, rfl, rfl, by decide +kernel, rfl, by decide +kernel, by decide +kernel⟩
theorem sc_NoHouse_init : FnScope ["self", "found"] ["self", "found"] (defScope s_NoHouse_init) := ⟨rfl, rfl, rfl, by decide +kernel, rfl, by decide +kernel, by decide +kernel⟩
theorem sc_NoDeed_init : FnScope ["self", "found"] ["self", "found"] (defScope s_NoDeed_init) := ⟨rfl, rfl, rfl, by decide +kernel, rfl, by decide +kernel, by decide +kernel⟩
theorem sc_NoWorld_init : FnScope ["self", "found"] ["self", "found"] (defScope s_NoWorld_init) := ⟨rfl, rfl, rfl, by decide +kernel, rfl, by decide +kernel, by decide +kernel⟩
theorem sc_NoPaper_init : FnScope ["self", "found"] ["self", "found"] (defScope s_NoPaper_init) := ⟨rfl, rfl, rfl, by decide +kernel, rfl, by decide +kernel, by decide +kernel⟩
theorem sc_NoLine_init : FnScope ["self", "found"] ["self", "found"] (defScope s_NoLine_init) := ⟨rfl, rfl, rfl, by decide +kernel, rfl, by decide +kernel, by decide +kernel⟩
theorem sc_Doubled_init : FnScope ["self", "found"] ["self", "found"] (defScope s_Doubled_init) := ⟨rfl, rfl, rfl, by decide +kernel, rfl, by decide +kernel, by decide +kernel⟩
theorem sc_NoRow_init : FnScope ["self", "at"] ["self", "at"] (defScope s_NoRow_init) := ⟨rfl, rfl, rfl, by decide +kernel, rfl, by decide +kernel, by decide +kernel⟩
theorem sc_TooMuch_init : FnScope ["self", "many"] ["self", "many"] (defScope s_TooMuch_init) := ⟨rfl, rfl, rfl, by decide +kernel, rfl, by decide +kernel, by decide +kernel⟩
theorem sc_NoGuest_init : FnScope ["self", "found"] ["self", "found"] (defScope s_NoGuest_init) := ⟨rfl, rfl, rfl, by decide +kernel, rfl, by decide +kernel, by decide +kernel⟩
theorem sc_NoAsk_init : FnScope ["self", "found"] ["self", "found"] (defScope s_NoAsk_init) := ⟨rfl, rfl, rfl, by decide +kernel, rfl, by decide +kernel, by decide +kernel⟩
theorem sc_NotOnRoad_init : FnScope ["self", "found"] ["self", "found"] (defScope s_NotOnRoad_init) := ⟨rfl, rfl, rfl, by decide +kernel, rfl, by decide +kernel, by decide +kernel⟩
theorem sc_NotKept_init : FnScope ["self", "found"] ["self", "found"] (defScope s_NotKept_init) := ⟨rfl, rfl, rfl, by decide +kernel, rfl, by decide +kernel, by decide +kernel⟩
theorem sc_Ended_init : FnScope ["self", "found"] ["self", "found"] (defScope s_Ended_init) := ⟨rfl, rfl, rfl, by decide +kernel, rfl, by decide +kernel, by decide +kernel⟩
theorem sc_Moving_init : FnScope ["self", "found"] ["self", "found"] (defScope s_Moving_init) := ⟨rfl, rfl, rfl, by decide +kernel, rfl, by decide +kernel, by decide +kernel⟩
theorem sc_NotMoving_init : FnScope ["self", "found"] ["self", "found"] (defScope s_NotMoving_init) := ⟨rfl, rfl, rfl, by decide +kernel, rfl, by decide +kernel, by decide +kernel⟩
theorem sc_Fallen_init : FnScope ["self", "found"] ["self", "found"] (defScope s_Fallen_init) := ⟨rfl, rfl, rfl, by decide +kernel, rfl, by decide +kernel, by decide +kernel⟩
theorem sc_Standing_init : FnScope ["self", "found"] ["self", "found"] (defScope s_Standing_init) := ⟨rfl, rfl, rfl, by decide +kernel, rfl, by decide +kernel, by decide +kernel⟩
theorem sc_Full_init : FnScope ["self", "many"] ["self", "many"] (defScope s_Full_init) := ⟨rfl, rfl, rfl, by decide +kernel, rfl, by decide +kernel, by decide +kernel⟩
theorem sc_Parted_init : FnScope ["self", "found", "at"] ["self", "found", "at"] (defScope s_Parted_init) := ⟨rfl, rfl, rfl, by decide +kernel, rfl, by decide +kernel, by decide +kernel⟩
theorem sc_Over_init : FnScope ["self"] ["self"] (defScope s_Over_init) := ⟨rfl, rfl, rfl, by decide +kernel, rfl, by decide +kernel, by decide +kernel⟩
theorem sc_cell_L : FnScope ["_law_script", "_law_k"] ["_law_script", "_law_k"] (defScope s_cell_L) := ⟨rfl, rfl, rfl, by decide +kernel, rfl, by decide +kernel, by decide +kernel⟩
theorem sc_box_L : FnScope ["_law_cell_here"] ["_law_cell_here"] (defScope s_box_L) := ⟨rfl, rfl, rfl, by decide +kernel, rfl, by decide +kernel, by decide +kernel⟩
theorem sc_take_L : FnScope ["_law_box_here", "_law_size", "_law_digit", "_law_one", "_law_two"] ["_law_box_here", "_law_size"] (defScope s_take_L) := ⟨rfl, rfl, rfl, by decide +kernel, rfl, by decide +kernel, by decide +kernel⟩
theorem sc_thing_L : FnScope ["_law_box_here", "_law_way", "_law_value"] ["_law_box_here"] (defScope s_thing_L) := ⟨rfl, rfl, rfl, by decide +kernel, rfl, by decide +kernel, by decide +kernel⟩
theorem sc_by_place_L : FnScope ["_law_k", "_law_thing_here"] ["_law_k", "_law_thing_here"] (defScope s_by_place_L) := ⟨rfl, rfl, rfl, by decide +kernel, rfl, by decide +kernel, by decide +kernel⟩
theorem sc_by_place_more_L : FnScope ["_law_k", "_law_thing_here"] ["_law_k", "_law_thing_here"] (defScope s_by_place_more_L) := ⟨rfl, rfl, rfl, by decide +kernel, rfl, by decide +kernel, by decide +kernel⟩
theorem sc_by_name_L : FnScope ["_law_k", "_law_thing_here"] ["_law_k", "_law_thing_here"] (defScope s_by_name_L) := ⟨rfl, rfl, rfl, by decide +kernel, rfl, by decide +kernel, by decide +kernel⟩
theorem sc_by_name_more_L : FnScope ["_law_k", "_law_thing_here"] ["_law_k", "_law_thing_here"] (defScope s_by_name_more_L) := ⟨rfl, rfl, rfl, by decide +kernel, rfl, by decide +kernel, by decide +kernel⟩
theorem sc_classes_L : FnScope ["_law_e", "_law_row"] ["_law_e"] (defScope s_classes_L) := ⟨rfl, rfl, rfl, by decide +kernel, rfl, by decide +kernel, by decide +kernel⟩
theorem sc_families_L : FnScope ["_law_e", "_law_row"] ["_law_e"] (defScope s_families_L) := ⟨rfl, rfl, rfl, by decide +kernel, rfl, by decide +kernel, by decide +kernel⟩
theorem sc_due_families_L : FnScope ["_law_k"] ["_law_k"] (defScope s_due_families_L) := ⟨rfl, rfl, rfl, by decide +kernel, rfl, by decide +kernel, by decide +kernel⟩
theorem sc_field_L : FnScope ["_law_e", "_law_k"] ["_law_e", "_law_k"] (defScope s_field_L) := ⟨rfl, rfl, rfl, by decide +kernel, rfl, by decide +kernel, by decide +kernel⟩
theorem sc_grown_L : FnScope ["_law_thing_here"] ["_law_thing_here"] (defScope s_grown_L) := ⟨rfl, rfl, rfl, by decide +kernel, rfl, by decide +kernel, by decide +kernel⟩
theorem sc_right_L : FnScope ["_law_e", "_law_k", "_law_thing_here", "_law_j"] ["_law_e", "_law_k", "_law_thing_here"] (defScope s_right_L) := ⟨rfl, rfl, rfl, by decide +kernel, rfl, by decide +kernel, by decide +kernel⟩
theorem sc_two_right_L : FnScope ["_law_one", "_law_other", "_law_e", "_law_j"] ["_law_one", "_law_other"] (defScope s_two_right_L) := ⟨rfl, rfl, rfl, by decide +kernel, rfl, by decide +kernel, by decide +kernel⟩
theorem sc_base_L : FnScope ["_law_way", "_law_words"] ["_law_way", "_law_words"] (defScope s_base_L) := ⟨rfl, rfl, rfl, by decide +kernel, rfl, by decide +kernel, by decide +kernel⟩
theorem sc_law : FnScope ["_law_script", "_law_j", "_law_box_here", "_law_k", "_law_thing_here", "_law_way", "_law_e"] ["_law_script"] (defScope s_law) := ⟨rfl, rfl, rfl, by decide +kernel, rfl, by decide +kernel, by decide +kernel⟩
structure Ad where
  cl : Nat → Addr
  fi : Nat → Addr
  fm : Nat → Addr
  ff : Nat → Addr
def fldN (k : Nat) : Str := if k = 9 then "at" else if k = 21 ∨ k = 27 then "many" else "found"
def famN (k : Nat) : Nat := if k < 22 then 0 else if k < 26 then 1 else 2
def bsN (k : Nat) : Bs := if k < 22 then .ve else if k < 26 then .ke else .le
def bsF : Nat → Bs
  | 0 => .ve
  | 1 => .ke
  | _ => .le
/-- of which families it is: the three own ones, ValueError, KeyError, LookupError -/
def famsN : Nat → Nat → Bool
  | 0, i => i == 0 || i == 3
  | 1, i => i == 1 || i == 4 || i == 5
  | _, i => i == 2 || i == 5
def famT (A : Ad) : Nat → Value
  | 0 => .ref (A.fm 0)
  | 1 => .ref (A.fm 1)
  | 2 => .ref (A.fm 2)
  | 3 => .type "ValueError"
  | 4 => .type "KeyError"
  | _ => .type "LookupError"
/-- what is asked of an own class: c, whose family is n -/
structure Own1 (K : PySem.W.Frag) (b : Bs) (C f : Addr) : Prop where
  ox : OexT K b C
  i : PySem.W.findIn K (.ref C) "__init__" = some (some (.ref f))
  t : PySem.W.typeIn K (.ref f) = some (.type "function")
  xf : XfC K C
  xc : ExcC K C
structure Txt (K : PySem.W.Frag) (mg : Str → Option Value) (A : Ad) : Prop where
  m_isinstance : mg "isinstance" = none
  m_list : mg "list" = none
  m_dict : mg "dict" = none
  m_len : mg "len" = none
  m_max : mg "max" = none
  m_min : mg "min" = none
  m_range : mg "range" = none
  m_repr : mg "repr" = none
  m_str : mg "str" = none
  m_ValueError : mg "ValueError" = none
  m_LookupError : mg "LookupError" = none
  m_KeyError : mg "KeyError" = none
  g_NoNumber : mg "NoNumber" = some (.ref (A.cl 0))
  g_NoName : mg "NoName" = some (.ref (A.cl 1))
  g_NoWord : mg "NoWord" = some (.ref (A.cl 2))
  g_NoOp : mg "NoOp" = some (.ref (A.cl 3))
  g_NoTruth : mg "NoTruth" = some (.ref (A.cl 4))
  g_NoBits : mg "NoBits" = some (.ref (A.cl 5))
  g_Nought : mg "Nought" = some (.ref (A.cl 6))
  g_NoImage : mg "NoImage" = some (.ref (A.cl 7))
  g_NoText : mg "NoText" = some (.ref (A.cl 8))
  g_NoRow : mg "NoRow" = some (.ref (A.cl 9))
  g_NoStore : mg "NoStore" = some (.ref (A.cl 10))
  g_NoKind : mg "NoKind" = some (.ref (A.cl 11))
  g_NoLog : mg "NoLog" = some (.ref (A.cl 12))
  g_NoShare : mg "NoShare" = some (.ref (A.cl 13))
  g_NoSnapshot : mg "NoSnapshot" = some (.ref (A.cl 14))
  g_NoHouse : mg "NoHouse" = some (.ref (A.cl 15))
  g_NoDeed : mg "NoDeed" = some (.ref (A.cl 16))
  g_NoWorld : mg "NoWorld" = some (.ref (A.cl 17))
  g_NoPaper : mg "NoPaper" = some (.ref (A.cl 18))
  g_NoLine : mg "NoLine" = some (.ref (A.cl 19))
  g_Doubled : mg "Doubled" = some (.ref (A.cl 20))
  g_TooMuch : mg "TooMuch" = some (.ref (A.cl 21))
  g_NoGuest : mg "NoGuest" = some (.ref (A.cl 22))
  g_NoAsk : mg "NoAsk" = some (.ref (A.cl 23))
  g_NotOnRoad : mg "NotOnRoad" = some (.ref (A.cl 24))
  g_NotKept : mg "NotKept" = some (.ref (A.cl 25))
  g_Ended : mg "Ended" = some (.ref (A.cl 26))
  g_Full : mg "Full" = some (.ref (A.cl 27))
  g_Moving : mg "Moving" = some (.ref (A.cl 28))
  g_NotMoving : mg "NotMoving" = some (.ref (A.cl 29))
  g_Fallen : mg "Fallen" = some (.ref (A.cl 30))
  g_Standing : mg "Standing" = some (.ref (A.cl 31))
  g_Parted : mg "Parted" = some (.ref (A.cl 32))
  g_Over : mg "Over" = some (.ref (A.cl 33))
  g_GuestError : mg "GuestError" = some (.ref (A.fm 0))
  rd_GuestError : PySem.W.readsIn K (A.fm 0) (.type "type") = true
  ga_GuestError : PySem.W.specialIn K (.ref (A.fm 0)) "__getattribute__" = some (some (.builtin "type.__getattribute__"))
  at_GuestError : PySem.W.findCls K (.ref (A.fm 0)) (.type "type") "__init__" = some (.val (.ref (A.ff 0)))
  g_Missing : mg "Missing" = some (.ref (A.fm 1))
  rd_Missing : PySem.W.readsIn K (A.fm 1) (.type "type") = true
  ga_Missing : PySem.W.specialIn K (.ref (A.fm 1)) "__getattribute__" = some (some (.builtin "type.__getattribute__"))
  at_Missing : PySem.W.findCls K (.ref (A.fm 1)) (.type "type") "__init__" = some (.val (.ref (A.ff 1)))
  g_Barred : mg "Barred" = some (.ref (A.fm 2))
  rd_Barred : PySem.W.readsIn K (A.fm 2) (.type "type") = true
  ga_Barred : PySem.W.specialIn K (.ref (A.fm 2)) "__getattribute__" = some (some (.builtin "type.__getattribute__"))
  at_Barred : PySem.W.findCls K (.ref (A.fm 2)) (.type "type") "__init__" = some (.val (.ref (A.ff 2)))
  vV : PySem.W.findCls K (.type "ValueError") (.type "type") "__init__" = some (.val (.builtin "ValueError.__init__"))
  vK : PySem.W.findCls K (.type "KeyError") (.type "type") "__init__" = some (.val (.builtin "KeyError.__init__"))
  vL : PySem.W.findCls K (.type "LookupError") (.type "type") "__init__" = some (.val (.builtin "LookupError.__init__"))
  own : ∀ k, k < 34 → Own1 K (bsN k) (A.cl k) (A.fi k)
  fam : ∀ k, k < 3 → Own1 K (bsF k) (A.fm k) (A.ff k)
  nf : ∀ k, k < 32 → PySem.W.findIn K (.ref (A.cl k)) (fldN k) = some none
  nf32 : PySem.W.findIn K (.ref (A.cl 32)) "found" = some none
  nf33 : PySem.W.findIn K (.ref (A.cl 32)) "at" = some none
  tab : ∀ i j, i < 34 → j < 34 → PySem.W.kitOne K (.ref (A.cl i)) (.ref (A.cl j)) = some (i == j)
  tabF : ∀ i j, i < 3 → j < 34 → PySem.W.kitOne K (.ref (A.fm i)) (.ref (A.cl j)) = some false
  fams : ∀ i j, i < 34 → j < 6 → PySem.W.kitOne K (.ref (A.cl i)) (famT A j) = some (famsN (famN i) j)
  famsF : ∀ i j, i < 3 → j < 6 → PySem.W.kitOne K (.ref (A.fm i)) (famT A j) = some (famsN i j)
def spInit2 (C : Addr) : Sp := fun vs H Q _ => ∃ (a : Addr) (x y : V), vs = [.ref a, x, y] ∧ H a = some (exo a C none) ∧ ∀ dx H', H dx = none → dx ≠ a → (∀ b o, b ≠ a → H b = some o → H' b = some o) → H' a = some (exo a C (some dx)) → H' dx = some (exd dx [("at", y), ("found", x)]) → Q .non H'
def spInit0 (C : Addr) : Sp := fun vs H Q _ => ∃ a : Addr, vs = [.ref a] ∧ H a = some (exo a C none) ∧ Q .non H
def spBase (C : Addr) : Sp := fun vs H Q _ => ∃ (a : Addr) (x : V), vs = [.ref a, x] ∧ H a = some (exo a C none) ∧ Q .non H
section
variable {P : Program} {w : World} {K : PySem.W.Frag} {mg : Str → Option Value} {base : Heap} {A : Ad}
theorem ok_GuestError {f : Addr} {fd : FuncData} (F : Fun K "__init__" "GuestError.__init__" s_GuestError_init f fd) (T : Txt K mg A) : FnOk P w K mg base CX0 1 f fd ["self", "text"] (spGT K .ve) := by
  refine F.ok sc_GuestError_init (fun vs H Q E h => ?_) (fun cdv A' outer s H vs Q E hr h => ⟨_, (pss_one (ps_expr (pe_veI (by rfl) T.m_ValueError T.vV (pa_cons (pv 0) (pa_cons (pv 1) pa_nil))))), ?_⟩)
  · obtain ⟨a, C, x, rfl, _⟩ := h
    rfl
  · obtain ⟨a, C, x, rfl, hC, e, q⟩ := h
    exact ⟨_, rfl, _, rfl, a, C, [x], rfl, Nat.le_of_ble_eq_true rfl, hC, e, q⟩
theorem ok_Missing {f : Addr} {fd : FuncData} (F : Fun K "__init__" "Missing.__init__" s_Missing_init f fd) (T : Txt K mg A) : FnOk P w K mg base CX0 1 f fd ["self", "text"] (spGT K .ke) := by
  refine F.ok sc_Missing_init (fun vs H Q E h => ?_) (fun cdv A' outer s H vs Q E hr h => ⟨_, (pss_one (ps_expr (pe_keI (by rfl) T.m_KeyError T.vK (pa_cons (pv 0) (pa_cons (pv 1) pa_nil))))), ?_⟩)
  · obtain ⟨a, C, x, rfl, _⟩ := h
    rfl
  · obtain ⟨a, C, x, rfl, hC, e, q⟩ := h
    exact ⟨_, rfl, _, rfl, a, C, [x], rfl, Nat.le_of_ble_eq_true rfl, hC, e, q⟩
theorem ok_Barred {f : Addr} {fd : FuncData} (F : Fun K "__init__" "Barred.__init__" s_Barred_init f fd) (T : Txt K mg A) : FnOk P w K mg base CX0 1 f fd ["self", "text"] (spGT K .le) := by
  refine F.ok sc_Barred_init (fun vs H Q E h => ?_) (fun cdv A' outer s H vs Q E hr h => ⟨_, (pss_one (ps_expr (pe_leI (by rfl) T.m_LookupError T.vL (pa_cons (pv 0) (pa_cons (pv 1) pa_nil))))), ?_⟩)
  · obtain ⟨a, C, x, rfl, _⟩ := h
    rfl
  · obtain ⟨a, C, x, rfl, hC, e, q⟩ := h
    exact ⟨_, rfl, _, rfl, a, C, [x], rfl, Nat.le_of_ble_eq_true rfl, hC, e, q⟩
theorem ok_NoNumber {f : Addr} {fd fdG : FuncData} (F : Fun K "__init__" "NoNumber.__init__" s_NoNumber_init f fd) (T : Txt K mg A) (c_GuestError_init : Own P w K mg base CX0 1 (A.ff 0) fdG ["self", "text"] (spGT K .ve)) : FnOk P w K mg base CX0 2 f fd ["self", "found"] (spInitN "found" (A.cl 0)) := by
  refine F.ok sc_NoNumber_init (fun vs H Q E h => ?_) (fun cdv A' outer s H vs Q E hr h => ⟨_, (pss_cons (ps_expr (pe_cdef c_GuestError_init.ok hr (by rfl) T.g_GuestError T.rd_GuestError T.ga_GuestError T.at_GuestError c_GuestError_init.kp c_GuestError_init.bd .nil pass0 (pa_cons (pv 0) (pa_cons pe_str pa_nil))))
    (pss_one (ps_osN (pv 0) (pv 1)))), ?_⟩)
  · obtain ⟨a, x, rfl, _⟩ := h
    rfl
  · obtain ⟨a, x, rfl, e, q⟩ := h
    walk_at "go"
    exact ⟨a, A.cl 0, _, rfl, (T.own 0 (by decide)).ox, e, x, rfl, .ref a, rfl, .ve, a, A.cl 0, rfl, (T.own 0 (by decide)).ox, T.nf 0 (by decide), e, q⟩
theorem ok_NoName {f : Addr} {fd fdG : FuncData} (F : Fun K "__init__" "NoName.__init__" s_NoName_init f fd) (T : Txt K mg A) (c_GuestError_init : Own P w K mg base CX0 1 (A.ff 0) fdG ["self", "text"] (spGT K .ve)) : FnOk P w K mg base CX0 2 f fd ["self", "found"] (spInitN "found" (A.cl 1)) := by
  refine F.ok sc_NoName_init (fun vs H Q E h => ?_) (fun cdv A' outer s H vs Q E hr h => ⟨_, (pss_cons (ps_expr (pe_cdef c_GuestError_init.ok hr (by rfl) T.g_GuestError T.rd_GuestError T.ga_GuestError T.at_GuestError c_GuestError_init.kp c_GuestError_init.bd .nil pass0 (pa_cons (pv 0) (pa_cons pe_str pa_nil))))
    (pss_one (ps_osN (pv 0) (pv 1)))), ?_⟩)
  · obtain ⟨a, x, rfl, _⟩ := h
    rfl
  · obtain ⟨a, x, rfl, e, q⟩ := h
    walk_at "go"
    exact ⟨a, A.cl 1, _, rfl, (T.own 1 (by decide)).ox, e, x, rfl, .ref a, rfl, .ve, a, A.cl 1, rfl, (T.own 1 (by decide)).ox, T.nf 1 (by decide), e, q⟩
theorem ok_NoWord {f : Addr} {fd fdG : FuncData} (F : Fun K "__init__" "NoWord.__init__" s_NoWord_init f fd) (T : Txt K mg A) (c_GuestError_init : Own P w K mg base CX0 1 (A.ff 0) fdG ["self", "text"] (spGT K .ve)) : FnOk P w K mg base CX0 2 f fd ["self", "found"] (spInitN "found" (A.cl 2)) := by
  refine F.ok sc_NoWord_init (fun vs H Q E h => ?_) (fun cdv A' outer s H vs Q E hr h => ⟨_, (pss_cons (ps_expr (pe_cdef c_GuestError_init.ok hr (by rfl) T.g_GuestError T.rd_GuestError T.ga_GuestError T.at_GuestError c_GuestError_init.kp c_GuestError_init.bd .nil pass0 (pa_cons (pv 0) (pa_cons pe_str pa_nil))))
    (pss_one (ps_osN (pv 0) (pv 1)))), ?_⟩)
  · obtain ⟨a, x, rfl, _⟩ := h
    rfl
  · obtain ⟨a, x, rfl, e, q⟩ := h
    walk_at "go"
    exact ⟨a, A.cl 2, _, rfl, (T.own 2 (by decide)).ox, e, x, rfl, .ref a, rfl, .ve, a, A.cl 2, rfl, (T.own 2 (by decide)).ox, T.nf 2 (by decide), e, q⟩
theorem ok_NoOp {f : Addr} {fd fdG : FuncData} (F : Fun K "__init__" "NoOp.__init__" s_NoOp_init f fd) (T : Txt K mg A) (c_GuestError_init : Own P w K mg base CX0 1 (A.ff 0) fdG ["self", "text"] (spGT K .ve)) : FnOk P w K mg base CX0 2 f fd ["self", "found"] (spInitN "found" (A.cl 3)) := by
  refine F.ok sc_NoOp_init (fun vs H Q E h => ?_) (fun cdv A' outer s H vs Q E hr h => ⟨_, (pss_cons (ps_expr (pe_cdef c_GuestError_init.ok hr (by rfl) T.g_GuestError T.rd_GuestError T.ga_GuestError T.at_GuestError c_GuestError_init.kp c_GuestError_init.bd .nil pass0 (pa_cons (pv 0) (pa_cons pe_str pa_nil))))
    (pss_one (ps_osN (pv 0) (pv 1)))), ?_⟩)
  · obtain ⟨a, x, rfl, _⟩ := h
    rfl
  · obtain ⟨a, x, rfl, e, q⟩ := h
    walk_at "go"
    exact ⟨a, A.cl 3, _, rfl, (T.own 3 (by decide)).ox, e, x, rfl, .ref a, rfl, .ve, a, A.cl 3, rfl, (T.own 3 (by decide)).ox, T.nf 3 (by decide), e, q⟩
theorem ok_NoTruth {f : Addr} {fd fdG : FuncData} (F : Fun K "__init__" "NoTruth.__init__" s_NoTruth_init f fd) (T : Txt K mg A) (c_GuestError_init : Own P w K mg base CX0 1 (A.ff 0) fdG ["self", "text"] (spGT K .ve)) : FnOk P w K mg base CX0 2 f fd ["self", "found"] (spInitN "found" (A.cl 4)) := by
  refine F.ok sc_NoTruth_init (fun vs H Q E h => ?_) (fun cdv A' outer s H vs Q E hr h => ⟨_, (pss_cons (ps_expr (pe_cdef c_GuestError_init.ok hr (by rfl) T.g_GuestError T.rd_GuestError T.ga_GuestError T.at_GuestError c_GuestError_init.kp c_GuestError_init.bd .nil pass0 (pa_cons (pv 0) (pa_cons pe_str pa_nil))))
    (pss_one (ps_osN (pv 0) (pv 1)))), ?_⟩)
  · obtain ⟨a, x, rfl, _⟩ := h
    rfl
  · obtain ⟨a, x, rfl, e, q⟩ := h
    walk_at "go"
    exact ⟨a, A.cl 4, _, rfl, (T.own 4 (by decide)).ox, e, x, rfl, .ref a, rfl, .ve, a, A.cl 4, rfl, (T.own 4 (by decide)).ox, T.nf 4 (by decide), e, q⟩
theorem ok_NoBits {f : Addr} {fd fdG : FuncData} (F : Fun K "__init__" "NoBits.__init__" s_NoBits_init f fd) (T : Txt K mg A) (c_GuestError_init : Own P w K mg base CX0 1 (A.ff 0) fdG ["self", "text"] (spGT K .ve)) : FnOk P w K mg base CX0 2 f fd ["self", "found"] (spInitN "found" (A.cl 5)) := by
  refine F.ok sc_NoBits_init (fun vs H Q E h => ?_) (fun cdv A' outer s H vs Q E hr h => ⟨_, (pss_cons (ps_expr (pe_cdef c_GuestError_init.ok hr (by rfl) T.g_GuestError T.rd_GuestError T.ga_GuestError T.at_GuestError c_GuestError_init.kp c_GuestError_init.bd .nil pass0 (pa_cons (pv 0) (pa_cons pe_str pa_nil))))
    (pss_one (ps_osN (pv 0) (pv 1)))), ?_⟩)
  · obtain ⟨a, x, rfl, _⟩ := h
    rfl
  · obtain ⟨a, x, rfl, e, q⟩ := h
    walk_at "go"
    exact ⟨a, A.cl 5, _, rfl, (T.own 5 (by decide)).ox, e, x, rfl, .ref a, rfl, .ve, a, A.cl 5, rfl, (T.own 5 (by decide)).ox, T.nf 5 (by decide), e, q⟩
theorem ok_Nought {f : Addr} {fd fdG : FuncData} (F : Fun K "__init__" "Nought.__init__" s_Nought_init f fd) (T : Txt K mg A) (c_GuestError_init : Own P w K mg base CX0 1 (A.ff 0) fdG ["self", "text"] (spGT K .ve)) : FnOk P w K mg base CX0 2 f fd ["self", "found"] (spInitN "found" (A.cl 6)) := by
  refine F.ok sc_Nought_init (fun vs H Q E h => ?_) (fun cdv A' outer s H vs Q E hr h => ⟨_, (pss_cons (ps_expr (pe_cdef c_GuestError_init.ok hr (by rfl) T.g_GuestError T.rd_GuestError T.ga_GuestError T.at_GuestError c_GuestError_init.kp c_GuestError_init.bd .nil pass0 (pa_cons (pv 0) (pa_cons pe_str pa_nil))))
    (pss_one (ps_osN (pv 0) (pv 1)))), ?_⟩)
  · obtain ⟨a, x, rfl, _⟩ := h
    rfl
  · obtain ⟨a, x, rfl, e, q⟩ := h
    walk_at "go"
    exact ⟨a, A.cl 6, _, rfl, (T.own 6 (by decide)).ox, e, x, rfl, .ref a, rfl, .ve, a, A.cl 6, rfl, (T.own 6 (by decide)).ox, T.nf 6 (by decide), e, q⟩
theorem ok_NoImage {f : Addr} {fd fdG : FuncData} (F : Fun K "__init__" "NoImage.__init__" s_NoImage_init f fd) (T : Txt K mg A) (c_GuestError_init : Own P w K mg base CX0 1 (A.ff 0) fdG ["self", "text"] (spGT K .ve)) : FnOk P w K mg base CX0 2 f fd ["self", "found"] (spInitN "found" (A.cl 7)) := by
  refine F.ok sc_NoImage_init (fun vs H Q E h => ?_) (fun cdv A' outer s H vs Q E hr h => ⟨_, (pss_cons (ps_expr (pe_cdef c_GuestError_init.ok hr (by rfl) T.g_GuestError T.rd_GuestError T.ga_GuestError T.at_GuestError c_GuestError_init.kp c_GuestError_init.bd .nil pass0 (pa_cons (pv 0) (pa_cons pe_str pa_nil))))
    (pss_one (ps_osN (pv 0) (pv 1)))), ?_⟩)
  · obtain ⟨a, x, rfl, _⟩ := h
    rfl
  · obtain ⟨a, x, rfl, e, q⟩ := h
    walk_at "go"
    exact ⟨a, A.cl 7, _, rfl, (T.own 7 (by decide)).ox, e, x, rfl, .ref a, rfl, .ve, a, A.cl 7, rfl, (T.own 7 (by decide)).ox, T.nf 7 (by decide), e, q⟩
theorem ok_NoText {f : Addr} {fd fdG : FuncData} (F : Fun K "__init__" "NoText.__init__" s_NoText_init f fd) (T : Txt K mg A) (c_GuestError_init : Own P w K mg base CX0 1 (A.ff 0) fdG ["self", "text"] (spGT K .ve)) : FnOk P w K mg base CX0 2 f fd ["self", "found"] (spInitN "found" (A.cl 8)) := by
  refine F.ok sc_NoText_init (fun vs H Q E h => ?_) (fun cdv A' outer s H vs Q E hr h => ⟨_, (pss_cons (ps_expr (pe_cdef c_GuestError_init.ok hr (by rfl) T.g_GuestError T.rd_GuestError T.ga_GuestError T.at_GuestError c_GuestError_init.kp c_GuestError_init.bd .nil pass0 (pa_cons (pv 0) (pa_cons pe_str pa_nil))))
    (pss_one (ps_osN (pv 0) (pv 1)))), ?_⟩)
  · obtain ⟨a, x, rfl, _⟩ := h
    rfl
  · obtain ⟨a, x, rfl, e, q⟩ := h
    walk_at "go"
    exact ⟨a, A.cl 8, _, rfl, (T.own 8 (by decide)).ox, e, x, rfl, .ref a, rfl, .ve, a, A.cl 8, rfl, (T.own 8 (by decide)).ox, T.nf 8 (by decide), e, q⟩
theorem ok_NoRow {f : Addr} {fd fdG : FuncData} (F : Fun K "__init__" "NoRow.__init__" s_NoRow_init f fd) (T : Txt K mg A) (c_GuestError_init : Own P w K mg base CX0 1 (A.ff 0) fdG ["self", "text"] (spGT K .ve)) : FnOk P w K mg base CX0 2 f fd ["self", "at"] (spInitN "at" (A.cl 9)) := by
  refine F.ok sc_NoRow_init (fun vs H Q E h => ?_) (fun cdv A' outer s H vs Q E hr h => ⟨_, (pss_cons (ps_expr (pe_cdef c_GuestError_init.ok hr (by rfl) T.g_GuestError T.rd_GuestError T.ga_GuestError T.at_GuestError c_GuestError_init.kp c_GuestError_init.bd .nil pass0 (pa_cons (pv 0) (pa_cons pe_str pa_nil))))
    (pss_one (ps_osN (pv 0) (pv 1)))), ?_⟩)
  · obtain ⟨a, x, rfl, _⟩ := h
    rfl
  · obtain ⟨a, x, rfl, e, q⟩ := h
    walk_at "go"
    exact ⟨a, A.cl 9, _, rfl, (T.own 9 (by decide)).ox, e, x, rfl, .ref a, rfl, .ve, a, A.cl 9, rfl, (T.own 9 (by decide)).ox, T.nf 9 (by decide), e, q⟩
theorem ok_NoStore {f : Addr} {fd fdG : FuncData} (F : Fun K "__init__" "NoStore.__init__" s_NoStore_init f fd) (T : Txt K mg A) (c_GuestError_init : Own P w K mg base CX0 1 (A.ff 0) fdG ["self", "text"] (spGT K .ve)) : FnOk P w K mg base CX0 2 f fd ["self", "found"] (spInitN "found" (A.cl 10)) := by
  refine F.ok sc_NoStore_init (fun vs H Q E h => ?_) (fun cdv A' outer s H vs Q E hr h => ⟨_, (pss_cons (ps_expr (pe_cdef c_GuestError_init.ok hr (by rfl) T.g_GuestError T.rd_GuestError T.ga_GuestError T.at_GuestError c_GuestError_init.kp c_GuestError_init.bd .nil pass0 (pa_cons (pv 0) (pa_cons pe_str pa_nil))))
    (pss_one (ps_osN (pv 0) (pv 1)))), ?_⟩)
  · obtain ⟨a, x, rfl, _⟩ := h
    rfl
  · obtain ⟨a, x, rfl, e, q⟩ := h
    walk_at "go"
    exact ⟨a, A.cl 10, _, rfl, (T.own 10 (by decide)).ox, e, x, rfl, .ref a, rfl, .ve, a, A.cl 10, rfl, (T.own 10 (by decide)).ox, T.nf 10 (by decide), e, q⟩
theorem ok_NoKind {f : Addr} {fd fdG : FuncData} (F : Fun K "__init__" "NoKind.__init__" s_NoKind_init f fd) (T : Txt K mg A) (c_GuestError_init : Own P w K mg base CX0 1 (A.ff 0) fdG ["self", "text"] (spGT K .ve)) : FnOk P w K mg base CX0 2 f fd ["self", "found"] (spInitN "found" (A.cl 11)) := by
  refine F.ok sc_NoKind_init (fun vs H Q E h => ?_) (fun cdv A' outer s H vs Q E hr h => ⟨_, (pss_cons (ps_expr (pe_cdef c_GuestError_init.ok hr (by rfl) T.g_GuestError T.rd_GuestError T.ga_GuestError T.at_GuestError c_GuestError_init.kp c_GuestError_init.bd .nil pass0 (pa_cons (pv 0) (pa_cons pe_str pa_nil))))
    (pss_one (ps_osN (pv 0) (pv 1)))), ?_⟩)
  · obtain ⟨a, x, rfl, _⟩ := h
    rfl
  · obtain ⟨a, x, rfl, e, q⟩ := h
    walk_at "go"
    exact ⟨a, A.cl 11, _, rfl, (T.own 11 (by decide)).ox, e, x, rfl, .ref a, rfl, .ve, a, A.cl 11, rfl, (T.own 11 (by decide)).ox, T.nf 11 (by decide), e, q⟩
theorem ok_NoLog {f : Addr} {fd fdG : FuncData} (F : Fun K "__init__" "NoLog.__init__" s_NoLog_init f fd) (T : Txt K mg A) (c_GuestError_init : Own P w K mg base CX0 1 (A.ff 0) fdG ["self", "text"] (spGT K .ve)) : FnOk P w K mg base CX0 2 f fd ["self", "found"] (spInitN "found" (A.cl 12)) := by
  refine F.ok sc_NoLog_init (fun vs H Q E h => ?_) (fun cdv A' outer s H vs Q E hr h => ⟨_, (pss_cons (ps_expr (pe_cdef c_GuestError_init.ok hr (by rfl) T.g_GuestError T.rd_GuestError T.ga_GuestError T.at_GuestError c_GuestError_init.kp c_GuestError_init.bd .nil pass0 (pa_cons (pv 0) (pa_cons pe_str pa_nil))))
    (pss_one (ps_osN (pv 0) (pv 1)))), ?_⟩)
  · obtain ⟨a, x, rfl, _⟩ := h
    rfl
  · obtain ⟨a, x, rfl, e, q⟩ := h
    walk_at "go"
    exact ⟨a, A.cl 12, _, rfl, (T.own 12 (by decide)).ox, e, x, rfl, .ref a, rfl, .ve, a, A.cl 12, rfl, (T.own 12 (by decide)).ox, T.nf 12 (by decide), e, q⟩
theorem ok_NoShare {f : Addr} {fd fdG : FuncData} (F : Fun K "__init__" "NoShare.__init__" s_NoShare_init f fd) (T : Txt K mg A) (c_GuestError_init : Own P w K mg base CX0 1 (A.ff 0) fdG ["self", "text"] (spGT K .ve)) : FnOk P w K mg base CX0 2 f fd ["self", "found"] (spInitN "found" (A.cl 13)) := by
  refine F.ok sc_NoShare_init (fun vs H Q E h => ?_) (fun cdv A' outer s H vs Q E hr h => ⟨_, (pss_cons (ps_expr (pe_cdef c_GuestError_init.ok hr (by rfl) T.g_GuestError T.rd_GuestError T.ga_GuestError T.at_GuestError c_GuestError_init.kp c_GuestError_init.bd .nil pass0 (pa_cons (pv 0) (pa_cons pe_str pa_nil))))
    (pss_one (ps_osN (pv 0) (pv 1)))), ?_⟩)
  · obtain ⟨a, x, rfl, _⟩ := h
    rfl
  · obtain ⟨a, x, rfl, e, q⟩ := h
    walk_at "go"
    exact ⟨a, A.cl 13, _, rfl, (T.own 13 (by decide)).ox, e, x, rfl, .ref a, rfl, .ve, a, A.cl 13, rfl, (T.own 13 (by decide)).ox, T.nf 13 (by decide), e, q⟩
theorem ok_NoSnapshot {f : Addr} {fd fdG : FuncData} (F : Fun K "__init__" "NoSnapshot.__init__" s_NoSnapshot_init f fd) (T : Txt K mg A) (c_GuestError_init : Own P w K mg base CX0 1 (A.ff 0) fdG ["self", "text"] (spGT K .ve)) : FnOk P w K mg base CX0 2 f fd ["self", "found"] (spInitN "found" (A.cl 14)) := by
  refine F.ok sc_NoSnapshot_init (fun vs H Q E h => ?_) (fun cdv A' outer s H vs Q E hr h => ⟨_, (pss_cons (ps_expr (pe_cdef c_GuestError_init.ok hr (by rfl) T.g_GuestError T.rd_GuestError T.ga_GuestError T.at_GuestError c_GuestError_init.kp c_GuestError_init.bd .nil pass0 (pa_cons (pv 0) (pa_cons pe_str pa_nil))))
    (pss_one (ps_osN (pv 0) (pv 1)))), ?_⟩)
  · obtain ⟨a, x, rfl, _⟩ := h
    rfl
  · obtain ⟨a, x, rfl, e, q⟩ := h
    walk_at "go"
    exact ⟨a, A.cl 14, _, rfl, (T.own 14 (by decide)).ox, e, x, rfl, .ref a, rfl, .ve, a, A.cl 14, rfl, (T.own 14 (by decide)).ox, T.nf 14 (by decide), e, q⟩
theorem ok_NoHouse {f : Addr} {fd fdG : FuncData} (F : Fun K "__init__" "NoHouse.__init__" s_NoHouse_init f fd) (T : Txt K mg A) (c_GuestError_init : Own P w K mg base CX0 1 (A.ff 0) fdG ["self", "text"] (spGT K .ve)) : FnOk P w K mg base CX0 2 f fd ["self", "found"] (spInitN "found" (A.cl 15)) := by
  refine F.ok sc_NoHouse_init (fun vs H Q E h => ?_) (fun cdv A' outer s H vs Q E hr h => ⟨_, (pss_cons (ps_expr (pe_cdef c_GuestError_init.ok hr (by rfl) T.g_GuestError T.rd_GuestError T.ga_GuestError T.at_GuestError c_GuestError_init.kp c_GuestError_init.bd .nil pass0 (pa_cons (pv 0) (pa_cons pe_str pa_nil))))
    (pss_one (ps_osN (pv 0) (pv 1)))), ?_⟩)
  · obtain ⟨a, x, rfl, _⟩ := h
    rfl
  · obtain ⟨a, x, rfl, e, q⟩ := h
    walk_at "go"
    exact ⟨a, A.cl 15, _, rfl, (T.own 15 (by decide)).ox, e, x, rfl, .ref a, rfl, .ve, a, A.cl 15, rfl, (T.own 15 (by decide)).ox, T.nf 15 (by decide), e, q⟩
theorem ok_NoDeed {f : Addr} {fd fdG : FuncData} (F : Fun K "__init__" "NoDeed.__init__" s_NoDeed_init f fd) (T : Txt K mg A) (c_GuestError_init : Own P w K mg base CX0 1 (A.ff 0) fdG ["self", "text"] (spGT K .ve)) : FnOk P w K mg base CX0 2 f fd ["self", "found"] (spInitN "found" (A.cl 16)) := by
  refine F.ok sc_NoDeed_init (fun vs H Q E h => ?_) (fun cdv A' outer s H vs Q E hr h => ⟨_, (pss_cons (ps_expr (pe_cdef c_GuestError_init.ok hr (by rfl) T.g_GuestError T.rd_GuestError T.ga_GuestError T.at_GuestError c_GuestError_init.kp c_GuestError_init.bd .nil pass0 (pa_cons (pv 0) (pa_cons pe_str pa_nil))))
    (pss_one (ps_osN (pv 0) (pv 1)))), ?_⟩)
  · obtain ⟨a, x, rfl, _⟩ := h
    rfl
  · obtain ⟨a, x, rfl, e, q⟩ := h
    walk_at "go"
    exact ⟨a, A.cl 16, _, rfl, (T.own 16 (by decide)).ox, e, x, rfl, .ref a, rfl, .ve, a, A.cl 16, rfl, (T.own 16 (by decide)).ox, T.nf 16 (by decide), e, q⟩
theorem ok_NoWorld {f : Addr} {fd fdG : FuncData} (F : Fun K "__init__" "NoWorld.__init__" s_NoWorld_init f fd) (T : Txt K mg A) (c_GuestError_init : Own P w K mg base CX0 1 (A.ff 0) fdG ["self", "text"] (spGT K .ve)) : FnOk P w K mg base CX0 2 f fd ["self", "found"] (spInitN "found" (A.cl 17)) := by
  refine F.ok sc_NoWorld_init (fun vs H Q E h => ?_) (fun cdv A' outer s H vs Q E hr h => ⟨_, (pss_cons (ps_expr (pe_cdef c_GuestError_init.ok hr (by rfl) T.g_GuestError T.rd_GuestError T.ga_GuestError T.at_GuestError c_GuestError_init.kp c_GuestError_init.bd .nil pass0 (pa_cons (pv 0) (pa_cons pe_str pa_nil))))
    (pss_one (ps_osN (pv 0) (pv 1)))), ?_⟩)
  · obtain ⟨a, x, rfl, _⟩ := h
    rfl
  · obtain ⟨a, x, rfl, e, q⟩ := h
    walk_at "go"
    exact ⟨a, A.cl 17, _, rfl, (T.own 17 (by decide)).ox, e, x, rfl, .ref a, rfl, .ve, a, A.cl 17, rfl, (T.own 17 (by decide)).ox, T.nf 17 (by decide), e, q⟩
theorem ok_NoPaper {f : Addr} {fd fdG : FuncData} (F : Fun K "__init__" "NoPaper.__init__" s_NoPaper_init f fd) (T : Txt K mg A) (c_GuestError_init : Own P w K mg base CX0 1 (A.ff 0) fdG ["self", "text"] (spGT K .ve)) : FnOk P w K mg base CX0 2 f fd ["self", "found"] (spInitN "found" (A.cl 18)) := by
  refine F.ok sc_NoPaper_init (fun vs H Q E h => ?_) (fun cdv A' outer s H vs Q E hr h => ⟨_, (pss_cons (ps_expr (pe_cdef c_GuestError_init.ok hr (by rfl) T.g_GuestError T.rd_GuestError T.ga_GuestError T.at_GuestError c_GuestError_init.kp c_GuestError_init.bd .nil pass0 (pa_cons (pv 0) (pa_cons pe_str pa_nil))))
    (pss_one (ps_osN (pv 0) (pv 1)))), ?_⟩)
  · obtain ⟨a, x, rfl, _⟩ := h
    rfl
  · obtain ⟨a, x, rfl, e, q⟩ := h
    walk_at "go"
    exact ⟨a, A.cl 18, _, rfl, (T.own 18 (by decide)).ox, e, x, rfl, .ref a, rfl, .ve, a, A.cl 18, rfl, (T.own 18 (by decide)).ox, T.nf 18 (by decide), e, q⟩
theorem ok_NoLine {f : Addr} {fd fdG : FuncData} (F : Fun K "__init__" "NoLine.__init__" s_NoLine_init f fd) (T : Txt K mg A) (c_GuestError_init : Own P w K mg base CX0 1 (A.ff 0) fdG ["self", "text"] (spGT K .ve)) : FnOk P w K mg base CX0 2 f fd ["self", "found"] (spInitN "found" (A.cl 19)) := by
  refine F.ok sc_NoLine_init (fun vs H Q E h => ?_) (fun cdv A' outer s H vs Q E hr h => ⟨_, (pss_cons (ps_expr (pe_cdef c_GuestError_init.ok hr (by rfl) T.g_GuestError T.rd_GuestError T.ga_GuestError T.at_GuestError c_GuestError_init.kp c_GuestError_init.bd .nil pass0 (pa_cons (pv 0) (pa_cons pe_str pa_nil))))
    (pss_one (ps_osN (pv 0) (pv 1)))), ?_⟩)
  · obtain ⟨a, x, rfl, _⟩ := h
    rfl
  · obtain ⟨a, x, rfl, e, q⟩ := h
    walk_at "go"
    exact ⟨a, A.cl 19, _, rfl, (T.own 19 (by decide)).ox, e, x, rfl, .ref a, rfl, .ve, a, A.cl 19, rfl, (T.own 19 (by decide)).ox, T.nf 19 (by decide), e, q⟩
theorem ok_Doubled {f : Addr} {fd fdG : FuncData} (F : Fun K "__init__" "Doubled.__init__" s_Doubled_init f fd) (T : Txt K mg A) (c_GuestError_init : Own P w K mg base CX0 1 (A.ff 0) fdG ["self", "text"] (spGT K .ve)) : FnOk P w K mg base CX0 2 f fd ["self", "found"] (spInitN "found" (A.cl 20)) := by
  refine F.ok sc_Doubled_init (fun vs H Q E h => ?_) (fun cdv A' outer s H vs Q E hr h => ⟨_, (pss_cons (ps_expr (pe_cdef c_GuestError_init.ok hr (by rfl) T.g_GuestError T.rd_GuestError T.ga_GuestError T.at_GuestError c_GuestError_init.kp c_GuestError_init.bd .nil pass0 (pa_cons (pv 0) (pa_cons pe_str pa_nil))))
    (pss_one (ps_osN (pv 0) (pv 1)))), ?_⟩)
  · obtain ⟨a, x, rfl, _⟩ := h
    rfl
  · obtain ⟨a, x, rfl, e, q⟩ := h
    walk_at "go"
    exact ⟨a, A.cl 20, _, rfl, (T.own 20 (by decide)).ox, e, x, rfl, .ref a, rfl, .ve, a, A.cl 20, rfl, (T.own 20 (by decide)).ox, T.nf 20 (by decide), e, q⟩
theorem ok_TooMuch {f : Addr} {fd fdG : FuncData} (F : Fun K "__init__" "TooMuch.__init__" s_TooMuch_init f fd) (T : Txt K mg A) (c_GuestError_init : Own P w K mg base CX0 1 (A.ff 0) fdG ["self", "text"] (spGT K .ve)) : FnOk P w K mg base CX0 2 f fd ["self", "many"] (spInitN "many" (A.cl 21)) := by
  refine F.ok sc_TooMuch_init (fun vs H Q E h => ?_) (fun cdv A' outer s H vs Q E hr h => ⟨_, (pss_cons (ps_expr (pe_cdef c_GuestError_init.ok hr (by rfl) T.g_GuestError T.rd_GuestError T.ga_GuestError T.at_GuestError c_GuestError_init.kp c_GuestError_init.bd .nil pass0 (pa_cons (pv 0) (pa_cons pe_str pa_nil))))
    (pss_one (ps_osN (pv 0) (pv 1)))), ?_⟩)
  · obtain ⟨a, x, rfl, _⟩ := h
    rfl
  · obtain ⟨a, x, rfl, e, q⟩ := h
    walk_at "go"
    exact ⟨a, A.cl 21, _, rfl, (T.own 21 (by decide)).ox, e, x, rfl, .ref a, rfl, .ve, a, A.cl 21, rfl, (T.own 21 (by decide)).ox, T.nf 21 (by decide), e, q⟩
theorem ok_NoGuest {f : Addr} {fd fdG : FuncData} (F : Fun K "__init__" "NoGuest.__init__" s_NoGuest_init f fd) (T : Txt K mg A) (c_Missing_init : Own P w K mg base CX0 1 (A.ff 1) fdG ["self", "text"] (spGT K .ke)) : FnOk P w K mg base CX0 2 f fd ["self", "found"] (spInitN "found" (A.cl 22)) := by
  refine F.ok sc_NoGuest_init (fun vs H Q E h => ?_) (fun cdv A' outer s H vs Q E hr h => ⟨_, (pss_cons (ps_expr (pe_cdef c_Missing_init.ok hr (by rfl) T.g_Missing T.rd_Missing T.ga_Missing T.at_Missing c_Missing_init.kp c_Missing_init.bd .nil pass0 (pa_cons (pv 0) (pa_cons pe_str pa_nil))))
    (pss_one (ps_osN (pv 0) (pv 1)))), ?_⟩)
  · obtain ⟨a, x, rfl, _⟩ := h
    rfl
  · obtain ⟨a, x, rfl, e, q⟩ := h
    walk_at "go"
    exact ⟨a, A.cl 22, _, rfl, (T.own 22 (by decide)).ox, e, x, rfl, .ref a, rfl, .ke, a, A.cl 22, rfl, (T.own 22 (by decide)).ox, T.nf 22 (by decide), e, q⟩
theorem ok_NoAsk {f : Addr} {fd fdG : FuncData} (F : Fun K "__init__" "NoAsk.__init__" s_NoAsk_init f fd) (T : Txt K mg A) (c_Missing_init : Own P w K mg base CX0 1 (A.ff 1) fdG ["self", "text"] (spGT K .ke)) : FnOk P w K mg base CX0 2 f fd ["self", "found"] (spInitN "found" (A.cl 23)) := by
  refine F.ok sc_NoAsk_init (fun vs H Q E h => ?_) (fun cdv A' outer s H vs Q E hr h => ⟨_, (pss_cons (ps_expr (pe_cdef c_Missing_init.ok hr (by rfl) T.g_Missing T.rd_Missing T.ga_Missing T.at_Missing c_Missing_init.kp c_Missing_init.bd .nil pass0 (pa_cons (pv 0) (pa_cons pe_str pa_nil))))
    (pss_one (ps_osN (pv 0) (pv 1)))), ?_⟩)
  · obtain ⟨a, x, rfl, _⟩ := h
    rfl
  · obtain ⟨a, x, rfl, e, q⟩ := h
    walk_at "go"
    exact ⟨a, A.cl 23, _, rfl, (T.own 23 (by decide)).ox, e, x, rfl, .ref a, rfl, .ke, a, A.cl 23, rfl, (T.own 23 (by decide)).ox, T.nf 23 (by decide), e, q⟩
theorem ok_NotOnRoad {f : Addr} {fd fdG : FuncData} (F : Fun K "__init__" "NotOnRoad.__init__" s_NotOnRoad_init f fd) (T : Txt K mg A) (c_Missing_init : Own P w K mg base CX0 1 (A.ff 1) fdG ["self", "text"] (spGT K .ke)) : FnOk P w K mg base CX0 2 f fd ["self", "found"] (spInitN "found" (A.cl 24)) := by
  refine F.ok sc_NotOnRoad_init (fun vs H Q E h => ?_) (fun cdv A' outer s H vs Q E hr h => ⟨_, (pss_cons (ps_expr (pe_cdef c_Missing_init.ok hr (by rfl) T.g_Missing T.rd_Missing T.ga_Missing T.at_Missing c_Missing_init.kp c_Missing_init.bd .nil pass0 (pa_cons (pv 0) (pa_cons pe_str pa_nil))))
    (pss_one (ps_osN (pv 0) (pv 1)))), ?_⟩)
  · obtain ⟨a, x, rfl, _⟩ := h
    rfl
  · obtain ⟨a, x, rfl, e, q⟩ := h
    walk_at "go"
    exact ⟨a, A.cl 24, _, rfl, (T.own 24 (by decide)).ox, e, x, rfl, .ref a, rfl, .ke, a, A.cl 24, rfl, (T.own 24 (by decide)).ox, T.nf 24 (by decide), e, q⟩
theorem ok_NotKept {f : Addr} {fd fdG : FuncData} (F : Fun K "__init__" "NotKept.__init__" s_NotKept_init f fd) (T : Txt K mg A) (c_Missing_init : Own P w K mg base CX0 1 (A.ff 1) fdG ["self", "text"] (spGT K .ke)) : FnOk P w K mg base CX0 2 f fd ["self", "found"] (spInitN "found" (A.cl 25)) := by
  refine F.ok sc_NotKept_init (fun vs H Q E h => ?_) (fun cdv A' outer s H vs Q E hr h => ⟨_, (pss_cons (ps_expr (pe_cdef c_Missing_init.ok hr (by rfl) T.g_Missing T.rd_Missing T.ga_Missing T.at_Missing c_Missing_init.kp c_Missing_init.bd .nil pass0 (pa_cons (pv 0) (pa_cons pe_str pa_nil))))
    (pss_one (ps_osN (pv 0) (pv 1)))), ?_⟩)
  · obtain ⟨a, x, rfl, _⟩ := h
    rfl
  · obtain ⟨a, x, rfl, e, q⟩ := h
    walk_at "go"
    exact ⟨a, A.cl 25, _, rfl, (T.own 25 (by decide)).ox, e, x, rfl, .ref a, rfl, .ke, a, A.cl 25, rfl, (T.own 25 (by decide)).ox, T.nf 25 (by decide), e, q⟩
theorem ok_Ended {f : Addr} {fd fdG : FuncData} (F : Fun K "__init__" "Ended.__init__" s_Ended_init f fd) (T : Txt K mg A) (c_Barred_init : Own P w K mg base CX0 1 (A.ff 2) fdG ["self", "text"] (spGT K .le)) : FnOk P w K mg base CX0 2 f fd ["self", "found"] (spInitN "found" (A.cl 26)) := by
  refine F.ok sc_Ended_init (fun vs H Q E h => ?_) (fun cdv A' outer s H vs Q E hr h => ⟨_, (pss_cons (ps_expr (pe_cdef c_Barred_init.ok hr (by rfl) T.g_Barred T.rd_Barred T.ga_Barred T.at_Barred c_Barred_init.kp c_Barred_init.bd .nil pass0 (pa_cons (pv 0) (pa_cons pe_str pa_nil))))
    (pss_one (ps_osN (pv 0) (pv 1)))), ?_⟩)
  · obtain ⟨a, x, rfl, _⟩ := h
    rfl
  · obtain ⟨a, x, rfl, e, q⟩ := h
    walk_at "go"
    exact ⟨a, A.cl 26, _, rfl, (T.own 26 (by decide)).ox, e, x, rfl, .ref a, rfl, .le, a, A.cl 26, rfl, (T.own 26 (by decide)).ox, T.nf 26 (by decide), e, q⟩
theorem ok_Full {f : Addr} {fd fdG : FuncData} (F : Fun K "__init__" "Full.__init__" s_Full_init f fd) (T : Txt K mg A) (c_Barred_init : Own P w K mg base CX0 1 (A.ff 2) fdG ["self", "text"] (spGT K .le)) : FnOk P w K mg base CX0 2 f fd ["self", "many"] (spInitN "many" (A.cl 27)) := by
  refine F.ok sc_Full_init (fun vs H Q E h => ?_) (fun cdv A' outer s H vs Q E hr h => ⟨_, (pss_cons (ps_expr (pe_cdef c_Barred_init.ok hr (by rfl) T.g_Barred T.rd_Barred T.ga_Barred T.at_Barred c_Barred_init.kp c_Barred_init.bd .nil pass0 (pa_cons (pv 0) (pa_cons pe_str pa_nil))))
    (pss_one (ps_osN (pv 0) (pv 1)))), ?_⟩)
  · obtain ⟨a, x, rfl, _⟩ := h
    rfl
  · obtain ⟨a, x, rfl, e, q⟩ := h
    walk_at "go"
    exact ⟨a, A.cl 27, _, rfl, (T.own 27 (by decide)).ox, e, x, rfl, .ref a, rfl, .le, a, A.cl 27, rfl, (T.own 27 (by decide)).ox, T.nf 27 (by decide), e, q⟩
theorem ok_Moving {f : Addr} {fd fdG : FuncData} (F : Fun K "__init__" "Moving.__init__" s_Moving_init f fd) (T : Txt K mg A) (c_Barred_init : Own P w K mg base CX0 1 (A.ff 2) fdG ["self", "text"] (spGT K .le)) : FnOk P w K mg base CX0 2 f fd ["self", "found"] (spInitN "found" (A.cl 28)) := by
  refine F.ok sc_Moving_init (fun vs H Q E h => ?_) (fun cdv A' outer s H vs Q E hr h => ⟨_, (pss_cons (ps_expr (pe_cdef c_Barred_init.ok hr (by rfl) T.g_Barred T.rd_Barred T.ga_Barred T.at_Barred c_Barred_init.kp c_Barred_init.bd .nil pass0 (pa_cons (pv 0) (pa_cons pe_str pa_nil))))
    (pss_one (ps_osN (pv 0) (pv 1)))), ?_⟩)
  · obtain ⟨a, x, rfl, _⟩ := h
    rfl
  · obtain ⟨a, x, rfl, e, q⟩ := h
    walk_at "go"
    exact ⟨a, A.cl 28, _, rfl, (T.own 28 (by decide)).ox, e, x, rfl, .ref a, rfl, .le, a, A.cl 28, rfl, (T.own 28 (by decide)).ox, T.nf 28 (by decide), e, q⟩
theorem ok_NotMoving {f : Addr} {fd fdG : FuncData} (F : Fun K "__init__" "NotMoving.__init__" s_NotMoving_init f fd) (T : Txt K mg A) (c_Barred_init : Own P w K mg base CX0 1 (A.ff 2) fdG ["self", "text"] (spGT K .le)) : FnOk P w K mg base CX0 2 f fd ["self", "found"] (spInitN "found" (A.cl 29)) := by
  refine F.ok sc_NotMoving_init (fun vs H Q E h => ?_) (fun cdv A' outer s H vs Q E hr h => ⟨_, (pss_cons (ps_expr (pe_cdef c_Barred_init.ok hr (by rfl) T.g_Barred T.rd_Barred T.ga_Barred T.at_Barred c_Barred_init.kp c_Barred_init.bd .nil pass0 (pa_cons (pv 0) (pa_cons pe_str pa_nil))))
    (pss_one (ps_osN (pv 0) (pv 1)))), ?_⟩)
  · obtain ⟨a, x, rfl, _⟩ := h
    rfl
  · obtain ⟨a, x, rfl, e, q⟩ := h
    walk_at "go"
    exact ⟨a, A.cl 29, _, rfl, (T.own 29 (by decide)).ox, e, x, rfl, .ref a, rfl, .le, a, A.cl 29, rfl, (T.own 29 (by decide)).ox, T.nf 29 (by decide), e, q⟩
theorem ok_Fallen {f : Addr} {fd fdG : FuncData} (F : Fun K "__init__" "Fallen.__init__" s_Fallen_init f fd) (T : Txt K mg A) (c_Barred_init : Own P w K mg base CX0 1 (A.ff 2) fdG ["self", "text"] (spGT K .le)) : FnOk P w K mg base CX0 2 f fd ["self", "found"] (spInitN "found" (A.cl 30)) := by
  refine F.ok sc_Fallen_init (fun vs H Q E h => ?_) (fun cdv A' outer s H vs Q E hr h => ⟨_, (pss_cons (ps_expr (pe_cdef c_Barred_init.ok hr (by rfl) T.g_Barred T.rd_Barred T.ga_Barred T.at_Barred c_Barred_init.kp c_Barred_init.bd .nil pass0 (pa_cons (pv 0) (pa_cons pe_str pa_nil))))
    (pss_one (ps_osN (pv 0) (pv 1)))), ?_⟩)
  · obtain ⟨a, x, rfl, _⟩ := h
    rfl
  · obtain ⟨a, x, rfl, e, q⟩ := h
    walk_at "go"
    exact ⟨a, A.cl 30, _, rfl, (T.own 30 (by decide)).ox, e, x, rfl, .ref a, rfl, .le, a, A.cl 30, rfl, (T.own 30 (by decide)).ox, T.nf 30 (by decide), e, q⟩
theorem ok_Standing {f : Addr} {fd fdG : FuncData} (F : Fun K "__init__" "Standing.__init__" s_Standing_init f fd) (T : Txt K mg A) (c_Barred_init : Own P w K mg base CX0 1 (A.ff 2) fdG ["self", "text"] (spGT K .le)) : FnOk P w K mg base CX0 2 f fd ["self", "found"] (spInitN "found" (A.cl 31)) := by
  refine F.ok sc_Standing_init (fun vs H Q E h => ?_) (fun cdv A' outer s H vs Q E hr h => ⟨_, (pss_cons (ps_expr (pe_cdef c_Barred_init.ok hr (by rfl) T.g_Barred T.rd_Barred T.ga_Barred T.at_Barred c_Barred_init.kp c_Barred_init.bd .nil pass0 (pa_cons (pv 0) (pa_cons pe_str pa_nil))))
    (pss_one (ps_osN (pv 0) (pv 1)))), ?_⟩)
  · obtain ⟨a, x, rfl, _⟩ := h
    rfl
  · obtain ⟨a, x, rfl, e, q⟩ := h
    walk_at "go"
    exact ⟨a, A.cl 31, _, rfl, (T.own 31 (by decide)).ox, e, x, rfl, .ref a, rfl, .le, a, A.cl 31, rfl, (T.own 31 (by decide)).ox, T.nf 31 (by decide), e, q⟩
theorem ok_Parted {f : Addr} {fd fdG : FuncData} (F : Fun K "__init__" "Parted.__init__" s_Parted_init f fd) (T : Txt K mg A) (c_Barred_init : Own P w K mg base CX0 1 (A.ff 2) fdG ["self", "text"] (spGT K .le)) : FnOk P w K mg base CX0 2 f fd ["self", "found", "at"] (spInit2 (A.cl 32)) := by
  refine F.ok sc_Parted_init (fun vs H Q E h => ?_) (fun cdv A' outer s H vs Q E hr h => ⟨_, (pss_cons (ps_expr (pe_cdef c_Barred_init.ok hr (by rfl) T.g_Barred T.rd_Barred T.ga_Barred T.at_Barred c_Barred_init.kp c_Barred_init.bd .nil pass0 (pa_cons (pv 0) (pa_cons pe_str pa_nil))))
    (pss_cons (ps_osN (pv 0) (pv 1))
    (pss_one (ps_osO (pv 0) (pv 2))))), ?_⟩)
  · obtain ⟨a, x, y, rfl, _⟩ := h
    rfl
  · obtain ⟨a, x, y, rfl, e, q⟩ := h
    walk_at "go"
    refine ⟨a, A.cl 32, _, rfl, (T.own 32 (by decide)).ox, e, x, rfl, .ref a, rfl, .le, a, A.cl 32, rfl, (T.own 32 (by decide)).ox, T.nf32, e, fun dx hd ne => ?_⟩
    refine ⟨y, rfl, .ref a, rfl, .le, a, A.cl 32, dx, _, rfl, (T.own 32 (by decide)).ox, T.nf33, upd_same, by rw [upd_ne ne, upd_same], (by show 1 ≤ 900; decide), ?_⟩
    refine q dx _ hd ne (fun b o nb eb => ?_) (by rw [upd_ne ne.symm, upd_same]) upd_same
    have nd := ne_of_none eb hd
    rw [upd_ne nd, upd_ne nb, upd_ne nd]
    exact eb
theorem ok_Over {f : Addr} {fd fdG : FuncData} (F : Fun K "__init__" "Over.__init__" s_Over_init f fd) (T : Txt K mg A) (c_Barred_init : Own P w K mg base CX0 1 (A.ff 2) fdG ["self", "text"] (spGT K .le)) : FnOk P w K mg base CX0 2 f fd ["self"] (spInit0 (A.cl 33)) := by
  refine F.ok sc_Over_init (fun vs H Q E h => ?_) (fun cdv A' outer s H vs Q E hr h => ⟨_, (pss_one (ps_expr (pe_cdef c_Barred_init.ok hr (by rfl) T.g_Barred T.rd_Barred T.ga_Barred T.at_Barred c_Barred_init.kp c_Barred_init.bd .nil pass0 (pa_cons (pv 0) (pa_cons pe_str pa_nil))))), ?_⟩)
  · obtain ⟨a, rfl, _⟩ := h
    rfl
  · obtain ⟨a, rfl, e, q⟩ := h
    walk_at "go"
    exact ⟨a, A.cl 33, _, rfl, (T.own 33 (by decide)).ox, e, q⟩
end
/-- all own classes, made by place and by names -/
structure Os (P : Program) (w : World) (K : PySem.W.Frag) (mg : Str → Option Value) (base : Heap) (A : Ad) : Prop where
  p_NoNumber : CalO P w K mg base 2 1 [] (A.cl 0) "NoNumber" (spInitN "found" (A.cl 0)) (fun us _ => us)
  k_NoNumber : CalO P w K mg base 2 0 ["found"] (A.cl 0) "NoNumber" (spInitN "found" (A.cl 0)) (fun us ws => us ++ ws)
  p_NoName : CalO P w K mg base 2 1 [] (A.cl 1) "NoName" (spInitN "found" (A.cl 1)) (fun us _ => us)
  k_NoName : CalO P w K mg base 2 0 ["found"] (A.cl 1) "NoName" (spInitN "found" (A.cl 1)) (fun us ws => us ++ ws)
  p_NoWord : CalO P w K mg base 2 1 [] (A.cl 2) "NoWord" (spInitN "found" (A.cl 2)) (fun us _ => us)
  k_NoWord : CalO P w K mg base 2 0 ["found"] (A.cl 2) "NoWord" (spInitN "found" (A.cl 2)) (fun us ws => us ++ ws)
  p_NoOp : CalO P w K mg base 2 1 [] (A.cl 3) "NoOp" (spInitN "found" (A.cl 3)) (fun us _ => us)
  k_NoOp : CalO P w K mg base 2 0 ["found"] (A.cl 3) "NoOp" (spInitN "found" (A.cl 3)) (fun us ws => us ++ ws)
  p_NoTruth : CalO P w K mg base 2 1 [] (A.cl 4) "NoTruth" (spInitN "found" (A.cl 4)) (fun us _ => us)
  k_NoTruth : CalO P w K mg base 2 0 ["found"] (A.cl 4) "NoTruth" (spInitN "found" (A.cl 4)) (fun us ws => us ++ ws)
  p_NoBits : CalO P w K mg base 2 1 [] (A.cl 5) "NoBits" (spInitN "found" (A.cl 5)) (fun us _ => us)
  k_NoBits : CalO P w K mg base 2 0 ["found"] (A.cl 5) "NoBits" (spInitN "found" (A.cl 5)) (fun us ws => us ++ ws)
  p_Nought : CalO P w K mg base 2 1 [] (A.cl 6) "Nought" (spInitN "found" (A.cl 6)) (fun us _ => us)
  k_Nought : CalO P w K mg base 2 0 ["found"] (A.cl 6) "Nought" (spInitN "found" (A.cl 6)) (fun us ws => us ++ ws)
  p_NoImage : CalO P w K mg base 2 1 [] (A.cl 7) "NoImage" (spInitN "found" (A.cl 7)) (fun us _ => us)
  k_NoImage : CalO P w K mg base 2 0 ["found"] (A.cl 7) "NoImage" (spInitN "found" (A.cl 7)) (fun us ws => us ++ ws)
  p_NoText : CalO P w K mg base 2 1 [] (A.cl 8) "NoText" (spInitN "found" (A.cl 8)) (fun us _ => us)
  k_NoText : CalO P w K mg base 2 0 ["found"] (A.cl 8) "NoText" (spInitN "found" (A.cl 8)) (fun us ws => us ++ ws)
  p_NoRow : CalO P w K mg base 2 1 [] (A.cl 9) "NoRow" (spInitN "at" (A.cl 9)) (fun us _ => us)
  k_NoRow : CalO P w K mg base 2 0 ["at"] (A.cl 9) "NoRow" (spInitN "at" (A.cl 9)) (fun us ws => us ++ ws)
  p_NoStore : CalO P w K mg base 2 1 [] (A.cl 10) "NoStore" (spInitN "found" (A.cl 10)) (fun us _ => us)
  k_NoStore : CalO P w K mg base 2 0 ["found"] (A.cl 10) "NoStore" (spInitN "found" (A.cl 10)) (fun us ws => us ++ ws)
  p_NoKind : CalO P w K mg base 2 1 [] (A.cl 11) "NoKind" (spInitN "found" (A.cl 11)) (fun us _ => us)
  k_NoKind : CalO P w K mg base 2 0 ["found"] (A.cl 11) "NoKind" (spInitN "found" (A.cl 11)) (fun us ws => us ++ ws)
  p_NoLog : CalO P w K mg base 2 1 [] (A.cl 12) "NoLog" (spInitN "found" (A.cl 12)) (fun us _ => us)
  k_NoLog : CalO P w K mg base 2 0 ["found"] (A.cl 12) "NoLog" (spInitN "found" (A.cl 12)) (fun us ws => us ++ ws)
  p_NoShare : CalO P w K mg base 2 1 [] (A.cl 13) "NoShare" (spInitN "found" (A.cl 13)) (fun us _ => us)
  k_NoShare : CalO P w K mg base 2 0 ["found"] (A.cl 13) "NoShare" (spInitN "found" (A.cl 13)) (fun us ws => us ++ ws)
  p_NoSnapshot : CalO P w K mg base 2 1 [] (A.cl 14) "NoSnapshot" (spInitN "found" (A.cl 14)) (fun us _ => us)
  k_NoSnapshot : CalO P w K mg base 2 0 ["found"] (A.cl 14) "NoSnapshot" (spInitN "found" (A.cl 14)) (fun us ws => us ++ ws)
  p_NoHouse : CalO P w K mg base 2 1 [] (A.cl 15) "NoHouse" (spInitN "found" (A.cl 15)) (fun us _ => us)
  k_NoHouse : CalO P w K mg base 2 0 ["found"] (A.cl 15) "NoHouse" (spInitN "found" (A.cl 15)) (fun us ws => us ++ ws)
  p_NoDeed : CalO P w K mg base 2 1 [] (A.cl 16) "NoDeed" (spInitN "found" (A.cl 16)) (fun us _ => us)
  k_NoDeed : CalO P w K mg base 2 0 ["found"] (A.cl 16) "NoDeed" (spInitN "found" (A.cl 16)) (fun us ws => us ++ ws)
  p_NoWorld : CalO P w K mg base 2 1 [] (A.cl 17) "NoWorld" (spInitN "found" (A.cl 17)) (fun us _ => us)
  k_NoWorld : CalO P w K mg base 2 0 ["found"] (A.cl 17) "NoWorld" (spInitN "found" (A.cl 17)) (fun us ws => us ++ ws)
  p_NoPaper : CalO P w K mg base 2 1 [] (A.cl 18) "NoPaper" (spInitN "found" (A.cl 18)) (fun us _ => us)
  k_NoPaper : CalO P w K mg base 2 0 ["found"] (A.cl 18) "NoPaper" (spInitN "found" (A.cl 18)) (fun us ws => us ++ ws)
  p_NoLine : CalO P w K mg base 2 1 [] (A.cl 19) "NoLine" (spInitN "found" (A.cl 19)) (fun us _ => us)
  k_NoLine : CalO P w K mg base 2 0 ["found"] (A.cl 19) "NoLine" (spInitN "found" (A.cl 19)) (fun us ws => us ++ ws)
  p_Doubled : CalO P w K mg base 2 1 [] (A.cl 20) "Doubled" (spInitN "found" (A.cl 20)) (fun us _ => us)
  k_Doubled : CalO P w K mg base 2 0 ["found"] (A.cl 20) "Doubled" (spInitN "found" (A.cl 20)) (fun us ws => us ++ ws)
  p_TooMuch : CalO P w K mg base 2 1 [] (A.cl 21) "TooMuch" (spInitN "many" (A.cl 21)) (fun us _ => us)
  k_TooMuch : CalO P w K mg base 2 0 ["many"] (A.cl 21) "TooMuch" (spInitN "many" (A.cl 21)) (fun us ws => us ++ ws)
  p_NoGuest : CalO P w K mg base 2 1 [] (A.cl 22) "NoGuest" (spInitN "found" (A.cl 22)) (fun us _ => us)
  k_NoGuest : CalO P w K mg base 2 0 ["found"] (A.cl 22) "NoGuest" (spInitN "found" (A.cl 22)) (fun us ws => us ++ ws)
  p_NoAsk : CalO P w K mg base 2 1 [] (A.cl 23) "NoAsk" (spInitN "found" (A.cl 23)) (fun us _ => us)
  k_NoAsk : CalO P w K mg base 2 0 ["found"] (A.cl 23) "NoAsk" (spInitN "found" (A.cl 23)) (fun us ws => us ++ ws)
  p_NotOnRoad : CalO P w K mg base 2 1 [] (A.cl 24) "NotOnRoad" (spInitN "found" (A.cl 24)) (fun us _ => us)
  k_NotOnRoad : CalO P w K mg base 2 0 ["found"] (A.cl 24) "NotOnRoad" (spInitN "found" (A.cl 24)) (fun us ws => us ++ ws)
  p_NotKept : CalO P w K mg base 2 1 [] (A.cl 25) "NotKept" (spInitN "found" (A.cl 25)) (fun us _ => us)
  k_NotKept : CalO P w K mg base 2 0 ["found"] (A.cl 25) "NotKept" (spInitN "found" (A.cl 25)) (fun us ws => us ++ ws)
  p_Ended : CalO P w K mg base 2 1 [] (A.cl 26) "Ended" (spInitN "found" (A.cl 26)) (fun us _ => us)
  k_Ended : CalO P w K mg base 2 0 ["found"] (A.cl 26) "Ended" (spInitN "found" (A.cl 26)) (fun us ws => us ++ ws)
  p_Full : CalO P w K mg base 2 1 [] (A.cl 27) "Full" (spInitN "many" (A.cl 27)) (fun us _ => us)
  k_Full : CalO P w K mg base 2 0 ["many"] (A.cl 27) "Full" (spInitN "many" (A.cl 27)) (fun us ws => us ++ ws)
  p_Moving : CalO P w K mg base 2 1 [] (A.cl 28) "Moving" (spInitN "found" (A.cl 28)) (fun us _ => us)
  k_Moving : CalO P w K mg base 2 0 ["found"] (A.cl 28) "Moving" (spInitN "found" (A.cl 28)) (fun us ws => us ++ ws)
  p_NotMoving : CalO P w K mg base 2 1 [] (A.cl 29) "NotMoving" (spInitN "found" (A.cl 29)) (fun us _ => us)
  k_NotMoving : CalO P w K mg base 2 0 ["found"] (A.cl 29) "NotMoving" (spInitN "found" (A.cl 29)) (fun us ws => us ++ ws)
  p_Fallen : CalO P w K mg base 2 1 [] (A.cl 30) "Fallen" (spInitN "found" (A.cl 30)) (fun us _ => us)
  k_Fallen : CalO P w K mg base 2 0 ["found"] (A.cl 30) "Fallen" (spInitN "found" (A.cl 30)) (fun us ws => us ++ ws)
  p_Standing : CalO P w K mg base 2 1 [] (A.cl 31) "Standing" (spInitN "found" (A.cl 31)) (fun us _ => us)
  k_Standing : CalO P w K mg base 2 0 ["found"] (A.cl 31) "Standing" (spInitN "found" (A.cl 31)) (fun us ws => us ++ ws)
  p_Parted : CalO P w K mg base 2 2 [] (A.cl 32) "Parted" (spInit2 (A.cl 32)) (fun us _ => us)
  k_Parted : CalO P w K mg base 2 0 ["at", "found"] (A.cl 32) "Parted" (spInit2 (A.cl 32)) (fun us ws => us ++ ws.reverse)
  p_Over : CalO P w K mg base 2 0 [] (A.cl 33) "Over" (spInit0 (A.cl 33)) (fun us _ => us)
  p_GuestError : CalO P w K mg base 1 1 [] (A.fm 0) "GuestError" (spGT K .ve) (fun us _ => us)
  p_Missing : CalO P w K mg base 1 1 [] (A.fm 1) "Missing" (spGT K .ke) (fun us _ => us)
  p_Barred : CalO P w K mg base 1 1 [] (A.fm 2) "Barred" (spGT K .le) (fun us _ => us)
end K82

namespace K82
open PySem PySem.Spec PyProof.Rows L2 Bk



def spBy (A : Ad) : Sp := fun vs H Q _ => ∃ (k : Nat) (v : V), vs = [.int k, v] ∧ k < 32 ∧ ∀ a dx H', H a = none → Same H H' → XV H' a (A.cl k) dx [(fldN k, v)] → Q (.ref a) H'
theorem mk_one {C : Addr} {nm : Str} {v : V} {H : Hp} {Q : VK} (q : ∀ a dx H', H a = none → Same H H' → XV H' a C dx [(nm, v)] → Q (.ref a) H') : ∀ a, H a = none → spInitN nm C [.ref a, v] (upd H a (exo a C none)) (fun u H3 => u = .non ∧ Q (.ref a) H3) (fun _ _ _ => False) := fun a na => by
  refine ⟨a, v, rfl, upd_same, fun dx hd ne => ⟨rfl, q a dx _ na (fun b o e => ?_) ⟨upd_same, ?_⟩⟩⟩
  · have n1 := ne_of_none e na
    rw [upd_ne ne] at hd
    rw [upd_ne n1, upd_ne (ne_of_none e hd), upd_ne n1]
    exact e
  · rw [upd_ne ne, upd_same]
section
variable {P : Program} {w : World} {K : PySem.W.Frag} {mg : Str → Option Value} {base : Heap} {A : Ad}
theorem ok_by_place_more {f : Addr} {fd : FuncData} (F : Fun K "_law_by_place_more" "_law_by_place_more" s_by_place_more_L f fd) (T : Txt K mg A) (O : Os P w K mg base A) : FnOk P w K mg base CX0 4 f fd ["_law_k", "_law_thing_here"] (fun vs H Q E => ∃ (k : Nat) (v : V), vs = [.int k, v] ∧ 14 ≤ k ∧ k < 32 ∧ ∀ a dx H', H a = none → Same H H' → XV H' a (A.cl k) dx [(fldN k, v)] → Q (.ref a) H') := by
  refine F.ok sc_by_place_more_L (fun vs H Q E h => ?_) (fun cdv A' outer s H vs Q E hr h => ⟨_, (pss_cons (ps_if (pt_cmpR op_eq (pv 0) pe_int (nomark _)) (pss_one (ps_ret (pe_oeP O.p_NoSnapshot hr (by decide) (by rfl) (pa_cons (pv 1) pa_nil)))) pss_nil)
    (pss_cons (ps_if (pt_cmpR op_eq (pv 0) pe_int (nomark _)) (pss_one (ps_ret (pe_oeP O.p_NoHouse hr (by decide) (by rfl) (pa_cons (pv 1) pa_nil)))) pss_nil)
    (pss_cons (ps_if (pt_cmpR op_eq (pv 0) pe_int (nomark _)) (pss_one (ps_ret (pe_oeP O.p_NoDeed hr (by decide) (by rfl) (pa_cons (pv 1) pa_nil)))) pss_nil)
    (pss_cons (ps_if (pt_cmpR op_eq (pv 0) pe_int (nomark _)) (pss_one (ps_ret (pe_oeP O.p_NoWorld hr (by decide) (by rfl) (pa_cons (pv 1) pa_nil)))) pss_nil)
    (pss_cons (ps_if (pt_cmpR op_eq (pv 0) pe_int (nomark _)) (pss_one (ps_ret (pe_oeP O.p_NoPaper hr (by decide) (by rfl) (pa_cons (pv 1) pa_nil)))) pss_nil)
    (pss_cons (ps_if (pt_cmpR op_eq (pv 0) pe_int (nomark _)) (pss_one (ps_ret (pe_oeP O.p_NoLine hr (by decide) (by rfl) (pa_cons (pv 1) pa_nil)))) pss_nil)
    (pss_cons (ps_if (pt_cmpR op_eq (pv 0) pe_int (nomark _)) (pss_one (ps_ret (pe_oeP O.p_Doubled hr (by decide) (by rfl) (pa_cons (pv 1) pa_nil)))) pss_nil)
    (pss_cons (ps_if (pt_cmpR op_eq (pv 0) pe_int (nomark _)) (pss_one (ps_ret (pe_oeP O.p_TooMuch hr (by decide) (by rfl) (pa_cons (pv 1) pa_nil)))) pss_nil)
    (pss_cons (ps_if (pt_cmpR op_eq (pv 0) pe_int (nomark _)) (pss_one (ps_ret (pe_oeP O.p_NoGuest hr (by decide) (by rfl) (pa_cons (pv 1) pa_nil)))) pss_nil)
    (pss_cons (ps_if (pt_cmpR op_eq (pv 0) pe_int (nomark _)) (pss_one (ps_ret (pe_oeP O.p_NoAsk hr (by decide) (by rfl) (pa_cons (pv 1) pa_nil)))) pss_nil)
    (pss_cons (ps_if (pt_cmpR op_eq (pv 0) pe_int (nomark _)) (pss_one (ps_ret (pe_oeP O.p_NotOnRoad hr (by decide) (by rfl) (pa_cons (pv 1) pa_nil)))) pss_nil)
    (pss_cons (ps_if (pt_cmpR op_eq (pv 0) pe_int (nomark _)) (pss_one (ps_ret (pe_oeP O.p_NotKept hr (by decide) (by rfl) (pa_cons (pv 1) pa_nil)))) pss_nil)
    (pss_cons (ps_if (pt_cmpR op_eq (pv 0) pe_int (nomark _)) (pss_one (ps_ret (pe_oeP O.p_Ended hr (by decide) (by rfl) (pa_cons (pv 1) pa_nil)))) pss_nil)
    (pss_cons (ps_if (pt_cmpR op_eq (pv 0) pe_int (nomark _)) (pss_one (ps_ret (pe_oeP O.p_Full hr (by decide) (by rfl) (pa_cons (pv 1) pa_nil)))) pss_nil)
    (pss_cons (ps_if (pt_cmpR op_eq (pv 0) pe_int (nomark _)) (pss_one (ps_ret (pe_oeP O.p_Moving hr (by decide) (by rfl) (pa_cons (pv 1) pa_nil)))) pss_nil)
    (pss_cons (ps_if (pt_cmpR op_eq (pv 0) pe_int (nomark _)) (pss_one (ps_ret (pe_oeP O.p_NotMoving hr (by decide) (by rfl) (pa_cons (pv 1) pa_nil)))) pss_nil)
    (pss_cons (ps_if (pt_cmpR op_eq (pv 0) pe_int (nomark _)) (pss_one (ps_ret (pe_oeP O.p_Fallen hr (by decide) (by rfl) (pa_cons (pv 1) pa_nil)))) pss_nil)
    (pss_one (ps_ret (pe_oeP O.p_Standing hr (by decide) (by rfl) (pa_cons (pv 1) pa_nil))))))))))))))))))))), ?_⟩)
  · obtain ⟨k, v, rfl, _⟩ := h
    rfl
  · obtain ⟨k, v, rfl, hlo, hk, q⟩ := h
    walk_at "go"
    refine iteC (fun e => ?_) (fun e14 => ?_)
    · obtain rfl : k = 14 := by injection e with e; omega
      walk_at "go"
      exact ⟨rfl, rfl, by decide, mk_one q⟩
    have e14 : k ≠ 14 := fun z => e14 (by rw [z]; rfl)
    walk_at "go"
    refine iteC (fun e => ?_) (fun e15 => ?_)
    · obtain rfl : k = 15 := by injection e with e; omega
      walk_at "go"
      exact ⟨rfl, rfl, by decide, mk_one q⟩
    have e15 : k ≠ 15 := fun z => e15 (by rw [z]; rfl)
    walk_at "go"
    refine iteC (fun e => ?_) (fun e16 => ?_)
    · obtain rfl : k = 16 := by injection e with e; omega
      walk_at "go"
      exact ⟨rfl, rfl, by decide, mk_one q⟩
    have e16 : k ≠ 16 := fun z => e16 (by rw [z]; rfl)
    walk_at "go"
    refine iteC (fun e => ?_) (fun e17 => ?_)
    · obtain rfl : k = 17 := by injection e with e; omega
      walk_at "go"
      exact ⟨rfl, rfl, by decide, mk_one q⟩
    have e17 : k ≠ 17 := fun z => e17 (by rw [z]; rfl)
    walk_at "go"
    refine iteC (fun e => ?_) (fun e18 => ?_)
    · obtain rfl : k = 18 := by injection e with e; omega
      walk_at "go"
      exact ⟨rfl, rfl, by decide, mk_one q⟩
    have e18 : k ≠ 18 := fun z => e18 (by rw [z]; rfl)
    walk_at "go"
    refine iteC (fun e => ?_) (fun e19 => ?_)
    · obtain rfl : k = 19 := by injection e with e; omega
      walk_at "go"
      exact ⟨rfl, rfl, by decide, mk_one q⟩
    have e19 : k ≠ 19 := fun z => e19 (by rw [z]; rfl)
    walk_at "go"
    refine iteC (fun e => ?_) (fun e20 => ?_)
    · obtain rfl : k = 20 := by injection e with e; omega
      walk_at "go"
      exact ⟨rfl, rfl, by decide, mk_one q⟩
    have e20 : k ≠ 20 := fun z => e20 (by rw [z]; rfl)
    walk_at "go"
    refine iteC (fun e => ?_) (fun e21 => ?_)
    · obtain rfl : k = 21 := by injection e with e; omega
      walk_at "go"
      exact ⟨rfl, rfl, by decide, mk_one q⟩
    have e21 : k ≠ 21 := fun z => e21 (by rw [z]; rfl)
    walk_at "go"
    refine iteC (fun e => ?_) (fun e22 => ?_)
    · obtain rfl : k = 22 := by injection e with e; omega
      walk_at "go"
      exact ⟨rfl, rfl, by decide, mk_one q⟩
    have e22 : k ≠ 22 := fun z => e22 (by rw [z]; rfl)
    walk_at "go"
    refine iteC (fun e => ?_) (fun e23 => ?_)
    · obtain rfl : k = 23 := by injection e with e; omega
      walk_at "go"
      exact ⟨rfl, rfl, by decide, mk_one q⟩
    have e23 : k ≠ 23 := fun z => e23 (by rw [z]; rfl)
    walk_at "go"
    refine iteC (fun e => ?_) (fun e24 => ?_)
    · obtain rfl : k = 24 := by injection e with e; omega
      walk_at "go"
      exact ⟨rfl, rfl, by decide, mk_one q⟩
    have e24 : k ≠ 24 := fun z => e24 (by rw [z]; rfl)
    walk_at "go"
    refine iteC (fun e => ?_) (fun e25 => ?_)
    · obtain rfl : k = 25 := by injection e with e; omega
      walk_at "go"
      exact ⟨rfl, rfl, by decide, mk_one q⟩
    have e25 : k ≠ 25 := fun z => e25 (by rw [z]; rfl)
    walk_at "go"
    refine iteC (fun e => ?_) (fun e26 => ?_)
    · obtain rfl : k = 26 := by injection e with e; omega
      walk_at "go"
      exact ⟨rfl, rfl, by decide, mk_one q⟩
    have e26 : k ≠ 26 := fun z => e26 (by rw [z]; rfl)
    walk_at "go"
    refine iteC (fun e => ?_) (fun e27 => ?_)
    · obtain rfl : k = 27 := by injection e with e; omega
      walk_at "go"
      exact ⟨rfl, rfl, by decide, mk_one q⟩
    have e27 : k ≠ 27 := fun z => e27 (by rw [z]; rfl)
    walk_at "go"
    refine iteC (fun e => ?_) (fun e28 => ?_)
    · obtain rfl : k = 28 := by injection e with e; omega
      walk_at "go"
      exact ⟨rfl, rfl, by decide, mk_one q⟩
    have e28 : k ≠ 28 := fun z => e28 (by rw [z]; rfl)
    walk_at "go"
    refine iteC (fun e => ?_) (fun e29 => ?_)
    · obtain rfl : k = 29 := by injection e with e; omega
      walk_at "go"
      exact ⟨rfl, rfl, by decide, mk_one q⟩
    have e29 : k ≠ 29 := fun z => e29 (by rw [z]; rfl)
    walk_at "go"
    refine iteC (fun e => ?_) (fun e30 => ?_)
    · obtain rfl : k = 30 := by injection e with e; omega
      walk_at "go"
      exact ⟨rfl, rfl, by decide, mk_one q⟩
    have e30 : k ≠ 30 := fun z => e30 (by rw [z]; rfl)
    walk_at "go"
    obtain rfl : k = 31 := by omega
    exact ⟨rfl, rfl, by decide, mk_one q⟩
theorem ok_by_place {f : Addr} {fd : FuncData} (F : Fun K "_law_by_place" "_law_by_place" s_by_place_L f fd) (T : Txt K mg A) (O : Os P w K mg base A) (c_by_place_more_L : CalD P w K mg base CX0 4 "_law_by_place_more" (fun vs H Q E => ∃ (k : Nat) (v : V), vs = [.int k, v] ∧ 14 ≤ k ∧ k < 32 ∧ ∀ a dx H', H a = none → Same H H' → XV H' a (A.cl k) dx [(fldN k, v)] → Q (.ref a) H') []) : FnOk P w K mg base CX0 5 f fd ["_law_k", "_law_thing_here"] (spBy A) := by
  refine F.ok sc_by_place_L (fun vs H Q E h => ?_) (fun cdv A' outer s H vs Q E hr h => ⟨_, (pss_cons (ps_if (pt_cmpR op_eq (pv 0) pe_int (nomark _)) (pss_one (ps_ret (pe_oeP O.p_NoNumber hr (by decide) (by rfl) (pa_cons (pv 1) pa_nil)))) pss_nil)
    (pss_cons (ps_if (pt_cmpR op_eq (pv 0) pe_int (nomark _)) (pss_one (ps_ret (pe_oeP O.p_NoName hr (by decide) (by rfl) (pa_cons (pv 1) pa_nil)))) pss_nil)
    (pss_cons (ps_if (pt_cmpR op_eq (pv 0) pe_int (nomark _)) (pss_one (ps_ret (pe_oeP O.p_NoWord hr (by decide) (by rfl) (pa_cons (pv 1) pa_nil)))) pss_nil)
    (pss_cons (ps_if (pt_cmpR op_eq (pv 0) pe_int (nomark _)) (pss_one (ps_ret (pe_oeP O.p_NoOp hr (by decide) (by rfl) (pa_cons (pv 1) pa_nil)))) pss_nil)
    (pss_cons (ps_if (pt_cmpR op_eq (pv 0) pe_int (nomark _)) (pss_one (ps_ret (pe_oeP O.p_NoTruth hr (by decide) (by rfl) (pa_cons (pv 1) pa_nil)))) pss_nil)
    (pss_cons (ps_if (pt_cmpR op_eq (pv 0) pe_int (nomark _)) (pss_one (ps_ret (pe_oeP O.p_NoBits hr (by decide) (by rfl) (pa_cons (pv 1) pa_nil)))) pss_nil)
    (pss_cons (ps_if (pt_cmpR op_eq (pv 0) pe_int (nomark _)) (pss_one (ps_ret (pe_oeP O.p_Nought hr (by decide) (by rfl) (pa_cons (pv 1) pa_nil)))) pss_nil)
    (pss_cons (ps_if (pt_cmpR op_eq (pv 0) pe_int (nomark _)) (pss_one (ps_ret (pe_oeP O.p_NoImage hr (by decide) (by rfl) (pa_cons (pv 1) pa_nil)))) pss_nil)
    (pss_cons (ps_if (pt_cmpR op_eq (pv 0) pe_int (nomark _)) (pss_one (ps_ret (pe_oeP O.p_NoText hr (by decide) (by rfl) (pa_cons (pv 1) pa_nil)))) pss_nil)
    (pss_cons (ps_if (pt_cmpR op_eq (pv 0) pe_int (nomark _)) (pss_one (ps_ret (pe_oeP O.p_NoRow hr (by decide) (by rfl) (pa_cons (pv 1) pa_nil)))) pss_nil)
    (pss_cons (ps_if (pt_cmpR op_eq (pv 0) pe_int (nomark _)) (pss_one (ps_ret (pe_oeP O.p_NoStore hr (by decide) (by rfl) (pa_cons (pv 1) pa_nil)))) pss_nil)
    (pss_cons (ps_if (pt_cmpR op_eq (pv 0) pe_int (nomark _)) (pss_one (ps_ret (pe_oeP O.p_NoKind hr (by decide) (by rfl) (pa_cons (pv 1) pa_nil)))) pss_nil)
    (pss_cons (ps_if (pt_cmpR op_eq (pv 0) pe_int (nomark _)) (pss_one (ps_ret (pe_oeP O.p_NoLog hr (by decide) (by rfl) (pa_cons (pv 1) pa_nil)))) pss_nil)
    (pss_cons (ps_if (pt_cmpR op_eq (pv 0) pe_int (nomark _)) (pss_one (ps_ret (pe_oeP O.p_NoShare hr (by decide) (by rfl) (pa_cons (pv 1) pa_nil)))) pss_nil)
    (pss_one (ps_ret (pe_cal c_by_place_more_L hr (by decide) (by rfl) (pa_cons (pv 0) (pa_cons (pv 1) pa_nil))))))))))))))))))), ?_⟩)
  · obtain ⟨k, v, rfl, _⟩ := h
    rfl
  · obtain ⟨k, v, rfl, hk, q⟩ := h
    walk_at "go"
    refine iteC (fun e => ?_) (fun e0 => ?_)
    · obtain rfl : k = 0 := by injection e with e; omega
      walk_at "go"
      exact ⟨rfl, rfl, by decide, mk_one q⟩
    have e0 : k ≠ 0 := fun z => e0 (by rw [z]; rfl)
    walk_at "go"
    refine iteC (fun e => ?_) (fun e1 => ?_)
    · obtain rfl : k = 1 := by injection e with e; omega
      walk_at "go"
      exact ⟨rfl, rfl, by decide, mk_one q⟩
    have e1 : k ≠ 1 := fun z => e1 (by rw [z]; rfl)
    walk_at "go"
    refine iteC (fun e => ?_) (fun e2 => ?_)
    · obtain rfl : k = 2 := by injection e with e; omega
      walk_at "go"
      exact ⟨rfl, rfl, by decide, mk_one q⟩
    have e2 : k ≠ 2 := fun z => e2 (by rw [z]; rfl)
    walk_at "go"
    refine iteC (fun e => ?_) (fun e3 => ?_)
    · obtain rfl : k = 3 := by injection e with e; omega
      walk_at "go"
      exact ⟨rfl, rfl, by decide, mk_one q⟩
    have e3 : k ≠ 3 := fun z => e3 (by rw [z]; rfl)
    walk_at "go"
    refine iteC (fun e => ?_) (fun e4 => ?_)
    · obtain rfl : k = 4 := by injection e with e; omega
      walk_at "go"
      exact ⟨rfl, rfl, by decide, mk_one q⟩
    have e4 : k ≠ 4 := fun z => e4 (by rw [z]; rfl)
    walk_at "go"
    refine iteC (fun e => ?_) (fun e5 => ?_)
    · obtain rfl : k = 5 := by injection e with e; omega
      walk_at "go"
      exact ⟨rfl, rfl, by decide, mk_one q⟩
    have e5 : k ≠ 5 := fun z => e5 (by rw [z]; rfl)
    walk_at "go"
    refine iteC (fun e => ?_) (fun e6 => ?_)
    · obtain rfl : k = 6 := by injection e with e; omega
      walk_at "go"
      exact ⟨rfl, rfl, by decide, mk_one q⟩
    have e6 : k ≠ 6 := fun z => e6 (by rw [z]; rfl)
    walk_at "go"
    refine iteC (fun e => ?_) (fun e7 => ?_)
    · obtain rfl : k = 7 := by injection e with e; omega
      walk_at "go"
      exact ⟨rfl, rfl, by decide, mk_one q⟩
    have e7 : k ≠ 7 := fun z => e7 (by rw [z]; rfl)
    walk_at "go"
    refine iteC (fun e => ?_) (fun e8 => ?_)
    · obtain rfl : k = 8 := by injection e with e; omega
      walk_at "go"
      exact ⟨rfl, rfl, by decide, mk_one q⟩
    have e8 : k ≠ 8 := fun z => e8 (by rw [z]; rfl)
    walk_at "go"
    refine iteC (fun e => ?_) (fun e9 => ?_)
    · obtain rfl : k = 9 := by injection e with e; omega
      walk_at "go"
      exact ⟨rfl, rfl, by decide, mk_one q⟩
    have e9 : k ≠ 9 := fun z => e9 (by rw [z]; rfl)
    walk_at "go"
    refine iteC (fun e => ?_) (fun e10 => ?_)
    · obtain rfl : k = 10 := by injection e with e; omega
      walk_at "go"
      exact ⟨rfl, rfl, by decide, mk_one q⟩
    have e10 : k ≠ 10 := fun z => e10 (by rw [z]; rfl)
    walk_at "go"
    refine iteC (fun e => ?_) (fun e11 => ?_)
    · obtain rfl : k = 11 := by injection e with e; omega
      walk_at "go"
      exact ⟨rfl, rfl, by decide, mk_one q⟩
    have e11 : k ≠ 11 := fun z => e11 (by rw [z]; rfl)
    walk_at "go"
    refine iteC (fun e => ?_) (fun e12 => ?_)
    · obtain rfl : k = 12 := by injection e with e; omega
      walk_at "go"
      exact ⟨rfl, rfl, by decide, mk_one q⟩
    have e12 : k ≠ 12 := fun z => e12 (by rw [z]; rfl)
    walk_at "go"
    refine iteC (fun e => ?_) (fun e13 => ?_)
    · obtain rfl : k = 13 := by injection e with e; omega
      walk_at "go"
      exact ⟨rfl, rfl, by decide, mk_one q⟩
    have e13 : k ≠ 13 := fun z => e13 (by rw [z]; rfl)
    walk_at "go"
    exact ⟨k, v, rfl, by omega, hk, q⟩
theorem ok_by_name_more {f : Addr} {fd : FuncData} (F : Fun K "_law_by_name_more" "_law_by_name_more" s_by_name_more_L f fd) (T : Txt K mg A) (O : Os P w K mg base A) : FnOk P w K mg base CX0 4 f fd ["_law_k", "_law_thing_here"] (fun vs H Q E => ∃ (k : Nat) (v : V), vs = [.int k, v] ∧ 14 ≤ k ∧ k < 32 ∧ ∀ a dx H', H a = none → Same H H' → XV H' a (A.cl k) dx [(fldN k, v)] → Q (.ref a) H') := by
  refine F.ok sc_by_name_more_L (fun vs H Q E h => ?_) (fun cdv A' outer s H vs Q E hr h => ⟨_, (pss_cons (ps_if (pt_cmpR op_eq (pv 0) pe_int (nomark _)) (pss_one (ps_ret (pe_oeK O.k_NoSnapshot hr (by decide) (by rfl) (pk_cons (pv 1) pk_nil)))) pss_nil)
    (pss_cons (ps_if (pt_cmpR op_eq (pv 0) pe_int (nomark _)) (pss_one (ps_ret (pe_oeK O.k_NoHouse hr (by decide) (by rfl) (pk_cons (pv 1) pk_nil)))) pss_nil)
    (pss_cons (ps_if (pt_cmpR op_eq (pv 0) pe_int (nomark _)) (pss_one (ps_ret (pe_oeK O.k_NoDeed hr (by decide) (by rfl) (pk_cons (pv 1) pk_nil)))) pss_nil)
    (pss_cons (ps_if (pt_cmpR op_eq (pv 0) pe_int (nomark _)) (pss_one (ps_ret (pe_oeK O.k_NoWorld hr (by decide) (by rfl) (pk_cons (pv 1) pk_nil)))) pss_nil)
    (pss_cons (ps_if (pt_cmpR op_eq (pv 0) pe_int (nomark _)) (pss_one (ps_ret (pe_oeK O.k_NoPaper hr (by decide) (by rfl) (pk_cons (pv 1) pk_nil)))) pss_nil)
    (pss_cons (ps_if (pt_cmpR op_eq (pv 0) pe_int (nomark _)) (pss_one (ps_ret (pe_oeK O.k_NoLine hr (by decide) (by rfl) (pk_cons (pv 1) pk_nil)))) pss_nil)
    (pss_cons (ps_if (pt_cmpR op_eq (pv 0) pe_int (nomark _)) (pss_one (ps_ret (pe_oeK O.k_Doubled hr (by decide) (by rfl) (pk_cons (pv 1) pk_nil)))) pss_nil)
    (pss_cons (ps_if (pt_cmpR op_eq (pv 0) pe_int (nomark _)) (pss_one (ps_ret (pe_oeK O.k_TooMuch hr (by decide) (by rfl) (pk_cons (pv 1) pk_nil)))) pss_nil)
    (pss_cons (ps_if (pt_cmpR op_eq (pv 0) pe_int (nomark _)) (pss_one (ps_ret (pe_oeK O.k_NoGuest hr (by decide) (by rfl) (pk_cons (pv 1) pk_nil)))) pss_nil)
    (pss_cons (ps_if (pt_cmpR op_eq (pv 0) pe_int (nomark _)) (pss_one (ps_ret (pe_oeK O.k_NoAsk hr (by decide) (by rfl) (pk_cons (pv 1) pk_nil)))) pss_nil)
    (pss_cons (ps_if (pt_cmpR op_eq (pv 0) pe_int (nomark _)) (pss_one (ps_ret (pe_oeK O.k_NotOnRoad hr (by decide) (by rfl) (pk_cons (pv 1) pk_nil)))) pss_nil)
    (pss_cons (ps_if (pt_cmpR op_eq (pv 0) pe_int (nomark _)) (pss_one (ps_ret (pe_oeK O.k_NotKept hr (by decide) (by rfl) (pk_cons (pv 1) pk_nil)))) pss_nil)
    (pss_cons (ps_if (pt_cmpR op_eq (pv 0) pe_int (nomark _)) (pss_one (ps_ret (pe_oeK O.k_Ended hr (by decide) (by rfl) (pk_cons (pv 1) pk_nil)))) pss_nil)
    (pss_cons (ps_if (pt_cmpR op_eq (pv 0) pe_int (nomark _)) (pss_one (ps_ret (pe_oeK O.k_Full hr (by decide) (by rfl) (pk_cons (pv 1) pk_nil)))) pss_nil)
    (pss_cons (ps_if (pt_cmpR op_eq (pv 0) pe_int (nomark _)) (pss_one (ps_ret (pe_oeK O.k_Moving hr (by decide) (by rfl) (pk_cons (pv 1) pk_nil)))) pss_nil)
    (pss_cons (ps_if (pt_cmpR op_eq (pv 0) pe_int (nomark _)) (pss_one (ps_ret (pe_oeK O.k_NotMoving hr (by decide) (by rfl) (pk_cons (pv 1) pk_nil)))) pss_nil)
    (pss_cons (ps_if (pt_cmpR op_eq (pv 0) pe_int (nomark _)) (pss_one (ps_ret (pe_oeK O.k_Fallen hr (by decide) (by rfl) (pk_cons (pv 1) pk_nil)))) pss_nil)
    (pss_one (ps_ret (pe_oeK O.k_Standing hr (by decide) (by rfl) (pk_cons (pv 1) pk_nil))))))))))))))))))))), ?_⟩)
  · obtain ⟨k, v, rfl, _⟩ := h
    rfl
  · obtain ⟨k, v, rfl, hlo, hk, q⟩ := h
    walk_at "go"
    refine iteC (fun e => ?_) (fun e14 => ?_)
    · obtain rfl : k = 14 := by injection e with e; omega
      walk_at "go"
      exact ⟨rfl, rfl, by decide, mk_one q⟩
    have e14 : k ≠ 14 := fun z => e14 (by rw [z]; rfl)
    walk_at "go"
    refine iteC (fun e => ?_) (fun e15 => ?_)
    · obtain rfl : k = 15 := by injection e with e; omega
      walk_at "go"
      exact ⟨rfl, rfl, by decide, mk_one q⟩
    have e15 : k ≠ 15 := fun z => e15 (by rw [z]; rfl)
    walk_at "go"
    refine iteC (fun e => ?_) (fun e16 => ?_)
    · obtain rfl : k = 16 := by injection e with e; omega
      walk_at "go"
      exact ⟨rfl, rfl, by decide, mk_one q⟩
    have e16 : k ≠ 16 := fun z => e16 (by rw [z]; rfl)
    walk_at "go"
    refine iteC (fun e => ?_) (fun e17 => ?_)
    · obtain rfl : k = 17 := by injection e with e; omega
      walk_at "go"
      exact ⟨rfl, rfl, by decide, mk_one q⟩
    have e17 : k ≠ 17 := fun z => e17 (by rw [z]; rfl)
    walk_at "go"
    refine iteC (fun e => ?_) (fun e18 => ?_)
    · obtain rfl : k = 18 := by injection e with e; omega
      walk_at "go"
      exact ⟨rfl, rfl, by decide, mk_one q⟩
    have e18 : k ≠ 18 := fun z => e18 (by rw [z]; rfl)
    walk_at "go"
    refine iteC (fun e => ?_) (fun e19 => ?_)
    · obtain rfl : k = 19 := by injection e with e; omega
      walk_at "go"
      exact ⟨rfl, rfl, by decide, mk_one q⟩
    have e19 : k ≠ 19 := fun z => e19 (by rw [z]; rfl)
    walk_at "go"
    refine iteC (fun e => ?_) (fun e20 => ?_)
    · obtain rfl : k = 20 := by injection e with e; omega
      walk_at "go"
      exact ⟨rfl, rfl, by decide, mk_one q⟩
    have e20 : k ≠ 20 := fun z => e20 (by rw [z]; rfl)
    walk_at "go"
    refine iteC (fun e => ?_) (fun e21 => ?_)
    · obtain rfl : k = 21 := by injection e with e; omega
      walk_at "go"
      exact ⟨rfl, rfl, by decide, mk_one q⟩
    have e21 : k ≠ 21 := fun z => e21 (by rw [z]; rfl)
    walk_at "go"
    refine iteC (fun e => ?_) (fun e22 => ?_)
    · obtain rfl : k = 22 := by injection e with e; omega
      walk_at "go"
      exact ⟨rfl, rfl, by decide, mk_one q⟩
    have e22 : k ≠ 22 := fun z => e22 (by rw [z]; rfl)
    walk_at "go"
    refine iteC (fun e => ?_) (fun e23 => ?_)
    · obtain rfl : k = 23 := by injection e with e; omega
      walk_at "go"
      exact ⟨rfl, rfl, by decide, mk_one q⟩
    have e23 : k ≠ 23 := fun z => e23 (by rw [z]; rfl)
    walk_at "go"
    refine iteC (fun e => ?_) (fun e24 => ?_)
    · obtain rfl : k = 24 := by injection e with e; omega
      walk_at "go"
      exact ⟨rfl, rfl, by decide, mk_one q⟩
    have e24 : k ≠ 24 := fun z => e24 (by rw [z]; rfl)
    walk_at "go"
    refine iteC (fun e => ?_) (fun e25 => ?_)
    · obtain rfl : k = 25 := by injection e with e; omega
      walk_at "go"
      exact ⟨rfl, rfl, by decide, mk_one q⟩
    have e25 : k ≠ 25 := fun z => e25 (by rw [z]; rfl)
    walk_at "go"
    refine iteC (fun e => ?_) (fun e26 => ?_)
    · obtain rfl : k = 26 := by injection e with e; omega
      walk_at "go"
      exact ⟨rfl, rfl, by decide, mk_one q⟩
    have e26 : k ≠ 26 := fun z => e26 (by rw [z]; rfl)
    walk_at "go"
    refine iteC (fun e => ?_) (fun e27 => ?_)
    · obtain rfl : k = 27 := by injection e with e; omega
      walk_at "go"
      exact ⟨rfl, rfl, by decide, mk_one q⟩
    have e27 : k ≠ 27 := fun z => e27 (by rw [z]; rfl)
    walk_at "go"
    refine iteC (fun e => ?_) (fun e28 => ?_)
    · obtain rfl : k = 28 := by injection e with e; omega
      walk_at "go"
      exact ⟨rfl, rfl, by decide, mk_one q⟩
    have e28 : k ≠ 28 := fun z => e28 (by rw [z]; rfl)
    walk_at "go"
    refine iteC (fun e => ?_) (fun e29 => ?_)
    · obtain rfl : k = 29 := by injection e with e; omega
      walk_at "go"
      exact ⟨rfl, rfl, by decide, mk_one q⟩
    have e29 : k ≠ 29 := fun z => e29 (by rw [z]; rfl)
    walk_at "go"
    refine iteC (fun e => ?_) (fun e30 => ?_)
    · obtain rfl : k = 30 := by injection e with e; omega
      walk_at "go"
      exact ⟨rfl, rfl, by decide, mk_one q⟩
    have e30 : k ≠ 30 := fun z => e30 (by rw [z]; rfl)
    walk_at "go"
    obtain rfl : k = 31 := by omega
    exact ⟨rfl, rfl, by decide, mk_one q⟩
theorem ok_by_name {f : Addr} {fd : FuncData} (F : Fun K "_law_by_name" "_law_by_name" s_by_name_L f fd) (T : Txt K mg A) (O : Os P w K mg base A) (c_by_name_more_L : CalD P w K mg base CX0 4 "_law_by_name_more" (fun vs H Q E => ∃ (k : Nat) (v : V), vs = [.int k, v] ∧ 14 ≤ k ∧ k < 32 ∧ ∀ a dx H', H a = none → Same H H' → XV H' a (A.cl k) dx [(fldN k, v)] → Q (.ref a) H') []) : FnOk P w K mg base CX0 5 f fd ["_law_k", "_law_thing_here"] (spBy A) := by
  refine F.ok sc_by_name_L (fun vs H Q E h => ?_) (fun cdv A' outer s H vs Q E hr h => ⟨_, (pss_cons (ps_if (pt_cmpR op_eq (pv 0) pe_int (nomark _)) (pss_one (ps_ret (pe_oeK O.k_NoNumber hr (by decide) (by rfl) (pk_cons (pv 1) pk_nil)))) pss_nil)
    (pss_cons (ps_if (pt_cmpR op_eq (pv 0) pe_int (nomark _)) (pss_one (ps_ret (pe_oeK O.k_NoName hr (by decide) (by rfl) (pk_cons (pv 1) pk_nil)))) pss_nil)
    (pss_cons (ps_if (pt_cmpR op_eq (pv 0) pe_int (nomark _)) (pss_one (ps_ret (pe_oeK O.k_NoWord hr (by decide) (by rfl) (pk_cons (pv 1) pk_nil)))) pss_nil)
    (pss_cons (ps_if (pt_cmpR op_eq (pv 0) pe_int (nomark _)) (pss_one (ps_ret (pe_oeK O.k_NoOp hr (by decide) (by rfl) (pk_cons (pv 1) pk_nil)))) pss_nil)
    (pss_cons (ps_if (pt_cmpR op_eq (pv 0) pe_int (nomark _)) (pss_one (ps_ret (pe_oeK O.k_NoTruth hr (by decide) (by rfl) (pk_cons (pv 1) pk_nil)))) pss_nil)
    (pss_cons (ps_if (pt_cmpR op_eq (pv 0) pe_int (nomark _)) (pss_one (ps_ret (pe_oeK O.k_NoBits hr (by decide) (by rfl) (pk_cons (pv 1) pk_nil)))) pss_nil)
    (pss_cons (ps_if (pt_cmpR op_eq (pv 0) pe_int (nomark _)) (pss_one (ps_ret (pe_oeK O.k_Nought hr (by decide) (by rfl) (pk_cons (pv 1) pk_nil)))) pss_nil)
    (pss_cons (ps_if (pt_cmpR op_eq (pv 0) pe_int (nomark _)) (pss_one (ps_ret (pe_oeK O.k_NoImage hr (by decide) (by rfl) (pk_cons (pv 1) pk_nil)))) pss_nil)
    (pss_cons (ps_if (pt_cmpR op_eq (pv 0) pe_int (nomark _)) (pss_one (ps_ret (pe_oeK O.k_NoText hr (by decide) (by rfl) (pk_cons (pv 1) pk_nil)))) pss_nil)
    (pss_cons (ps_if (pt_cmpR op_eq (pv 0) pe_int (nomark _)) (pss_one (ps_ret (pe_oeK O.k_NoRow hr (by decide) (by rfl) (pk_cons (pv 1) pk_nil)))) pss_nil)
    (pss_cons (ps_if (pt_cmpR op_eq (pv 0) pe_int (nomark _)) (pss_one (ps_ret (pe_oeK O.k_NoStore hr (by decide) (by rfl) (pk_cons (pv 1) pk_nil)))) pss_nil)
    (pss_cons (ps_if (pt_cmpR op_eq (pv 0) pe_int (nomark _)) (pss_one (ps_ret (pe_oeK O.k_NoKind hr (by decide) (by rfl) (pk_cons (pv 1) pk_nil)))) pss_nil)
    (pss_cons (ps_if (pt_cmpR op_eq (pv 0) pe_int (nomark _)) (pss_one (ps_ret (pe_oeK O.k_NoLog hr (by decide) (by rfl) (pk_cons (pv 1) pk_nil)))) pss_nil)
    (pss_cons (ps_if (pt_cmpR op_eq (pv 0) pe_int (nomark _)) (pss_one (ps_ret (pe_oeK O.k_NoShare hr (by decide) (by rfl) (pk_cons (pv 1) pk_nil)))) pss_nil)
    (pss_one (ps_ret (pe_cal c_by_name_more_L hr (by decide) (by rfl) (pa_cons (pv 0) (pa_cons (pv 1) pa_nil))))))))))))))))))), ?_⟩)
  · obtain ⟨k, v, rfl, _⟩ := h
    rfl
  · obtain ⟨k, v, rfl, hk, q⟩ := h
    walk_at "go"
    refine iteC (fun e => ?_) (fun e0 => ?_)
    · obtain rfl : k = 0 := by injection e with e; omega
      walk_at "go"
      exact ⟨rfl, rfl, by decide, mk_one q⟩
    have e0 : k ≠ 0 := fun z => e0 (by rw [z]; rfl)
    walk_at "go"
    refine iteC (fun e => ?_) (fun e1 => ?_)
    · obtain rfl : k = 1 := by injection e with e; omega
      walk_at "go"
      exact ⟨rfl, rfl, by decide, mk_one q⟩
    have e1 : k ≠ 1 := fun z => e1 (by rw [z]; rfl)
    walk_at "go"
    refine iteC (fun e => ?_) (fun e2 => ?_)
    · obtain rfl : k = 2 := by injection e with e; omega
      walk_at "go"
      exact ⟨rfl, rfl, by decide, mk_one q⟩
    have e2 : k ≠ 2 := fun z => e2 (by rw [z]; rfl)
    walk_at "go"
    refine iteC (fun e => ?_) (fun e3 => ?_)
    · obtain rfl : k = 3 := by injection e with e; omega
      walk_at "go"
      exact ⟨rfl, rfl, by decide, mk_one q⟩
    have e3 : k ≠ 3 := fun z => e3 (by rw [z]; rfl)
    walk_at "go"
    refine iteC (fun e => ?_) (fun e4 => ?_)
    · obtain rfl : k = 4 := by injection e with e; omega
      walk_at "go"
      exact ⟨rfl, rfl, by decide, mk_one q⟩
    have e4 : k ≠ 4 := fun z => e4 (by rw [z]; rfl)
    walk_at "go"
    refine iteC (fun e => ?_) (fun e5 => ?_)
    · obtain rfl : k = 5 := by injection e with e; omega
      walk_at "go"
      exact ⟨rfl, rfl, by decide, mk_one q⟩
    have e5 : k ≠ 5 := fun z => e5 (by rw [z]; rfl)
    walk_at "go"
    refine iteC (fun e => ?_) (fun e6 => ?_)
    · obtain rfl : k = 6 := by injection e with e; omega
      walk_at "go"
      exact ⟨rfl, rfl, by decide, mk_one q⟩
    have e6 : k ≠ 6 := fun z => e6 (by rw [z]; rfl)
    walk_at "go"
    refine iteC (fun e => ?_) (fun e7 => ?_)
    · obtain rfl : k = 7 := by injection e with e; omega
      walk_at "go"
      exact ⟨rfl, rfl, by decide, mk_one q⟩
    have e7 : k ≠ 7 := fun z => e7 (by rw [z]; rfl)
    walk_at "go"
    refine iteC (fun e => ?_) (fun e8 => ?_)
    · obtain rfl : k = 8 := by injection e with e; omega
      walk_at "go"
      exact ⟨rfl, rfl, by decide, mk_one q⟩
    have e8 : k ≠ 8 := fun z => e8 (by rw [z]; rfl)
    walk_at "go"
    refine iteC (fun e => ?_) (fun e9 => ?_)
    · obtain rfl : k = 9 := by injection e with e; omega
      walk_at "go"
      exact ⟨rfl, rfl, by decide, mk_one q⟩
    have e9 : k ≠ 9 := fun z => e9 (by rw [z]; rfl)
    walk_at "go"
    refine iteC (fun e => ?_) (fun e10 => ?_)
    · obtain rfl : k = 10 := by injection e with e; omega
      walk_at "go"
      exact ⟨rfl, rfl, by decide, mk_one q⟩
    have e10 : k ≠ 10 := fun z => e10 (by rw [z]; rfl)
    walk_at "go"
    refine iteC (fun e => ?_) (fun e11 => ?_)
    · obtain rfl : k = 11 := by injection e with e; omega
      walk_at "go"
      exact ⟨rfl, rfl, by decide, mk_one q⟩
    have e11 : k ≠ 11 := fun z => e11 (by rw [z]; rfl)
    walk_at "go"
    refine iteC (fun e => ?_) (fun e12 => ?_)
    · obtain rfl : k = 12 := by injection e with e; omega
      walk_at "go"
      exact ⟨rfl, rfl, by decide, mk_one q⟩
    have e12 : k ≠ 12 := fun z => e12 (by rw [z]; rfl)
    walk_at "go"
    refine iteC (fun e => ?_) (fun e13 => ?_)
    · obtain rfl : k = 13 := by injection e with e; omega
      walk_at "go"
      exact ⟨rfl, rfl, by decide, mk_one q⟩
    have e13 : k ≠ 13 := fun z => e13 (by rw [z]; rfl)
    walk_at "go"
    exact ⟨k, v, rfl, by omega, hk, q⟩
end
end K82

namespace K82
open PySem PySem.Spec PyProof.Rows L2 Bk



theorem XVo.same {H H' : Hp} {a D : Addr} {d : Option Addr} {fs : List (Str × V)} (x : XVo H a D d fs) (s : Same H H') : XVo H' a D d fs := by
  obtain ⟨h1, h2⟩ := x
  refine ⟨s _ _ h1, ?_⟩
  cases d with
  | none => exact h2
  | some dx => exact s _ _ h2
theorem XV.o {H : Hp} {a D dx : Addr} {fs : List (Str × V)} (x : XV H a D dx fs) : XVo H a D (some dx) fs := x
theorem XV.same {H H' : Hp} {a D dx : Addr} {fs : List (Str × V)} (x : XV H a D dx fs) (s : Same H H') : XV H' a D dx fs := ⟨s _ _ x.1, s _ _ x.2⟩
def spClasses (K : PySem.W.Frag) (A : Ad) : Sp := fun vs H Q _ => ∃ (a D : Addr) (d : Option Addr) (fs : List (Str × V)) (f : Nat → Bool), vs = [.ref a] ∧ XVo H a D d fs ∧ ExcC K D ∧ (∀ j, j < 34 → PySem.W.kitOne K (.ref D) (.ref (A.cl j)) = some (f j)) ∧
  ∀ p H', H p = none → Same H H' → H' p = some (.lst (((List.range 34).map f).map V.bl)) → Q (.ref p) H'
def spFams (K : PySem.W.Frag) (A : Ad) : Sp := fun vs H Q _ => ∃ (a D : Addr) (d : Option Addr) (fs : List (Str × V)) (f : Nat → Bool), vs = [.ref a] ∧ XVo H a D d fs ∧ ExcC K D ∧ (∀ j, j < 6 → PySem.W.kitOne K (.ref D) (famT A j) = some (f j)) ∧
  ∀ p H', H p = none → Same H H' → H' p = some (.lst (((List.range 6).map f).map V.bl)) → Q (.ref p) H'
def spDue : Sp := fun vs H Q _ => ∃ k : Nat, vs = [.int k] ∧ ∀ p H', H p = none → Same H H' → H' p = some (.lst (((List.range 6).map (famsN (famN k))).map V.bl)) → Q (.ref p) H'
def spField (A : Ad) : Sp := fun vs H Q _ => ∃ (a dx : Addr) (k : Nat) (v : V), vs = [.ref a, .int k] ∧ k < 32 ∧ XV H a (A.cl k) dx [(fldN k, v)] ∧ ∀ H', Same H H' → Q v H'
section
variable {P : Program} {w : World} {K : PySem.W.Frag} {mg : Str → Option Value} {base : Heap} {A : Ad}
theorem ok_classes {f : Addr} {fd : FuncData} (F : Fun K "_law_classes" "_law_classes" s_classes_L f fd) (T : Txt K mg A) : FnOk P w K mg base CX0 1 f fd ["_law_e"] (spClasses K A) := by
  refine F.ok sc_classes_L (fun vs H Q E h => ?_) (fun cdv A' outer s H vs Q E hr h => ⟨_, (pss_cons (ps_set (i := 1) sc_classes_L.nd rfl (.inl rfl) (pe_lstB pa_nil))
    (pss_cons (ps_set (i := 1) sc_classes_L.nd rfl (.inl rfl) (pe_op op_cat (pv 1) (pe_lstB (pa_cons (pe_callB call_isV (by rfl) T.m_isinstance (by decide +kernel) (pa_cons (pv 0) (pa_cons (pe_glob (v := .ref _) (by rfl) T.g_NoNumber rfl) pa_nil))) (pa_cons (pe_callB call_isV (by rfl) T.m_isinstance (by decide +kernel) (pa_cons (pv 0) (pa_cons (pe_glob (v := .ref _) (by rfl) T.g_NoName rfl) pa_nil))) (pa_cons (pe_callB call_isV (by rfl) T.m_isinstance (by decide +kernel) (pa_cons (pv 0) (pa_cons (pe_glob (v := .ref _) (by rfl) T.g_NoWord rfl) pa_nil))) pa_nil))))))
    (pss_cons (ps_set (i := 1) sc_classes_L.nd rfl (.inl rfl) (pe_op op_cat (pv 1) (pe_lstB (pa_cons (pe_callB call_isV (by rfl) T.m_isinstance (by decide +kernel) (pa_cons (pv 0) (pa_cons (pe_glob (v := .ref _) (by rfl) T.g_NoOp rfl) pa_nil))) (pa_cons (pe_callB call_isV (by rfl) T.m_isinstance (by decide +kernel) (pa_cons (pv 0) (pa_cons (pe_glob (v := .ref _) (by rfl) T.g_NoTruth rfl) pa_nil))) (pa_cons (pe_callB call_isV (by rfl) T.m_isinstance (by decide +kernel) (pa_cons (pv 0) (pa_cons (pe_glob (v := .ref _) (by rfl) T.g_NoBits rfl) pa_nil))) pa_nil))))))
    (pss_cons (ps_set (i := 1) sc_classes_L.nd rfl (.inl rfl) (pe_op op_cat (pv 1) (pe_lstB (pa_cons (pe_callB call_isV (by rfl) T.m_isinstance (by decide +kernel) (pa_cons (pv 0) (pa_cons (pe_glob (v := .ref _) (by rfl) T.g_Nought rfl) pa_nil))) (pa_cons (pe_callB call_isV (by rfl) T.m_isinstance (by decide +kernel) (pa_cons (pv 0) (pa_cons (pe_glob (v := .ref _) (by rfl) T.g_NoImage rfl) pa_nil))) (pa_cons (pe_callB call_isV (by rfl) T.m_isinstance (by decide +kernel) (pa_cons (pv 0) (pa_cons (pe_glob (v := .ref _) (by rfl) T.g_NoText rfl) pa_nil))) pa_nil))))))
    (pss_cons (ps_set (i := 1) sc_classes_L.nd rfl (.inl rfl) (pe_op op_cat (pv 1) (pe_lstB (pa_cons (pe_callB call_isV (by rfl) T.m_isinstance (by decide +kernel) (pa_cons (pv 0) (pa_cons (pe_glob (v := .ref _) (by rfl) T.g_NoRow rfl) pa_nil))) (pa_cons (pe_callB call_isV (by rfl) T.m_isinstance (by decide +kernel) (pa_cons (pv 0) (pa_cons (pe_glob (v := .ref _) (by rfl) T.g_NoStore rfl) pa_nil))) (pa_cons (pe_callB call_isV (by rfl) T.m_isinstance (by decide +kernel) (pa_cons (pv 0) (pa_cons (pe_glob (v := .ref _) (by rfl) T.g_NoKind rfl) pa_nil))) pa_nil))))))
    (pss_cons (ps_set (i := 1) sc_classes_L.nd rfl (.inl rfl) (pe_op op_cat (pv 1) (pe_lstB (pa_cons (pe_callB call_isV (by rfl) T.m_isinstance (by decide +kernel) (pa_cons (pv 0) (pa_cons (pe_glob (v := .ref _) (by rfl) T.g_NoLog rfl) pa_nil))) (pa_cons (pe_callB call_isV (by rfl) T.m_isinstance (by decide +kernel) (pa_cons (pv 0) (pa_cons (pe_glob (v := .ref _) (by rfl) T.g_NoShare rfl) pa_nil))) (pa_cons (pe_callB call_isV (by rfl) T.m_isinstance (by decide +kernel) (pa_cons (pv 0) (pa_cons (pe_glob (v := .ref _) (by rfl) T.g_NoSnapshot rfl) pa_nil))) pa_nil))))))
    (pss_cons (ps_set (i := 1) sc_classes_L.nd rfl (.inl rfl) (pe_op op_cat (pv 1) (pe_lstB (pa_cons (pe_callB call_isV (by rfl) T.m_isinstance (by decide +kernel) (pa_cons (pv 0) (pa_cons (pe_glob (v := .ref _) (by rfl) T.g_NoHouse rfl) pa_nil))) (pa_cons (pe_callB call_isV (by rfl) T.m_isinstance (by decide +kernel) (pa_cons (pv 0) (pa_cons (pe_glob (v := .ref _) (by rfl) T.g_NoDeed rfl) pa_nil))) (pa_cons (pe_callB call_isV (by rfl) T.m_isinstance (by decide +kernel) (pa_cons (pv 0) (pa_cons (pe_glob (v := .ref _) (by rfl) T.g_NoWorld rfl) pa_nil))) pa_nil))))))
    (pss_cons (ps_set (i := 1) sc_classes_L.nd rfl (.inl rfl) (pe_op op_cat (pv 1) (pe_lstB (pa_cons (pe_callB call_isV (by rfl) T.m_isinstance (by decide +kernel) (pa_cons (pv 0) (pa_cons (pe_glob (v := .ref _) (by rfl) T.g_NoPaper rfl) pa_nil))) (pa_cons (pe_callB call_isV (by rfl) T.m_isinstance (by decide +kernel) (pa_cons (pv 0) (pa_cons (pe_glob (v := .ref _) (by rfl) T.g_NoLine rfl) pa_nil))) (pa_cons (pe_callB call_isV (by rfl) T.m_isinstance (by decide +kernel) (pa_cons (pv 0) (pa_cons (pe_glob (v := .ref _) (by rfl) T.g_Doubled rfl) pa_nil))) pa_nil))))))
    (pss_cons (ps_set (i := 1) sc_classes_L.nd rfl (.inl rfl) (pe_op op_cat (pv 1) (pe_lstB (pa_cons (pe_callB call_isV (by rfl) T.m_isinstance (by decide +kernel) (pa_cons (pv 0) (pa_cons (pe_glob (v := .ref _) (by rfl) T.g_TooMuch rfl) pa_nil))) (pa_cons (pe_callB call_isV (by rfl) T.m_isinstance (by decide +kernel) (pa_cons (pv 0) (pa_cons (pe_glob (v := .ref _) (by rfl) T.g_NoGuest rfl) pa_nil))) (pa_cons (pe_callB call_isV (by rfl) T.m_isinstance (by decide +kernel) (pa_cons (pv 0) (pa_cons (pe_glob (v := .ref _) (by rfl) T.g_NoAsk rfl) pa_nil))) pa_nil))))))
    (pss_cons (ps_set (i := 1) sc_classes_L.nd rfl (.inl rfl) (pe_op op_cat (pv 1) (pe_lstB (pa_cons (pe_callB call_isV (by rfl) T.m_isinstance (by decide +kernel) (pa_cons (pv 0) (pa_cons (pe_glob (v := .ref _) (by rfl) T.g_NotOnRoad rfl) pa_nil))) (pa_cons (pe_callB call_isV (by rfl) T.m_isinstance (by decide +kernel) (pa_cons (pv 0) (pa_cons (pe_glob (v := .ref _) (by rfl) T.g_NotKept rfl) pa_nil))) (pa_cons (pe_callB call_isV (by rfl) T.m_isinstance (by decide +kernel) (pa_cons (pv 0) (pa_cons (pe_glob (v := .ref _) (by rfl) T.g_Ended rfl) pa_nil))) pa_nil))))))
    (pss_cons (ps_set (i := 1) sc_classes_L.nd rfl (.inl rfl) (pe_op op_cat (pv 1) (pe_lstB (pa_cons (pe_callB call_isV (by rfl) T.m_isinstance (by decide +kernel) (pa_cons (pv 0) (pa_cons (pe_glob (v := .ref _) (by rfl) T.g_Full rfl) pa_nil))) (pa_cons (pe_callB call_isV (by rfl) T.m_isinstance (by decide +kernel) (pa_cons (pv 0) (pa_cons (pe_glob (v := .ref _) (by rfl) T.g_Moving rfl) pa_nil))) (pa_cons (pe_callB call_isV (by rfl) T.m_isinstance (by decide +kernel) (pa_cons (pv 0) (pa_cons (pe_glob (v := .ref _) (by rfl) T.g_NotMoving rfl) pa_nil))) pa_nil))))))
    (pss_cons (ps_set (i := 1) sc_classes_L.nd rfl (.inl rfl) (pe_op op_cat (pv 1) (pe_lstB (pa_cons (pe_callB call_isV (by rfl) T.m_isinstance (by decide +kernel) (pa_cons (pv 0) (pa_cons (pe_glob (v := .ref _) (by rfl) T.g_Fallen rfl) pa_nil))) (pa_cons (pe_callB call_isV (by rfl) T.m_isinstance (by decide +kernel) (pa_cons (pv 0) (pa_cons (pe_glob (v := .ref _) (by rfl) T.g_Standing rfl) pa_nil))) pa_nil)))))
    (pss_one (ps_ret (pe_op op_cat (pv 1) (pe_lstB (pa_cons (pe_callB call_isV (by rfl) T.m_isinstance (by decide +kernel) (pa_cons (pv 0) (pa_cons (pe_glob (v := .ref _) (by rfl) T.g_Parted rfl) pa_nil))) (pa_cons (pe_callB call_isV (by rfl) T.m_isinstance (by decide +kernel) (pa_cons (pv 0) (pa_cons (pe_glob (v := .ref _) (by rfl) T.g_Over rfl) pa_nil))) pa_nil)))))))))))))))))), ?_⟩)
  · obtain ⟨a, D, d, fs, g, rfl, _⟩ := h
    rfl
  · obtain ⟨a, D, d, fs, g, rfl, xv, hC, hk, q⟩ := h
    walk_at "go"
    refine newLB fun p0 P0 np0 ns0 s0 e0 => ?_
    walk_at "go"
    refine ⟨a, D, d, fs, _, _, g 0, rfl, XVo.same xv s0, hC, .own _, hk 0 (by decide), ?_⟩
    walk_at "go"
    refine ⟨a, D, d, fs, _, _, g 1, rfl, XVo.same xv s0, hC, .own _, hk 1 (by decide), ?_⟩
    walk_at "go"
    refine ⟨a, D, d, fs, _, _, g 2, rfl, XVo.same xv s0, hC, .own _, hk 2 (by decide), ?_⟩
    walk_at "go"
    refine newLB fun l L nl nsl sl el => ?_
    refine r_cat (sl _ _ e0) el (fun p1 P1 np1 sp1 e1 => ?_) (Nat.le_of_ble_eq_true rfl)
    have np1 : H p1 = none := (s0.trans sl).free np1
    replace s0 := (s0.trans sl).trans sp1
    clear e0 el sl nl
    walk_at "go"
    refine ⟨a, D, d, fs, _, _, g 3, rfl, XVo.same xv s0, hC, .own _, hk 3 (by decide), ?_⟩
    walk_at "go"
    refine ⟨a, D, d, fs, _, _, g 4, rfl, XVo.same xv s0, hC, .own _, hk 4 (by decide), ?_⟩
    walk_at "go"
    refine ⟨a, D, d, fs, _, _, g 5, rfl, XVo.same xv s0, hC, .own _, hk 5 (by decide), ?_⟩
    walk_at "go"
    refine newLB fun l L nl nsl sl el => ?_
    refine r_cat (sl _ _ e1) el (fun p2 P2 np2 sp2 e2 => ?_) (Nat.le_of_ble_eq_true rfl)
    have np2 : H p2 = none := (s0.trans sl).free np2
    replace s0 := (s0.trans sl).trans sp2
    clear e1 el sl nl
    walk_at "go"
    refine ⟨a, D, d, fs, _, _, g 6, rfl, XVo.same xv s0, hC, .own _, hk 6 (by decide), ?_⟩
    walk_at "go"
    refine ⟨a, D, d, fs, _, _, g 7, rfl, XVo.same xv s0, hC, .own _, hk 7 (by decide), ?_⟩
    walk_at "go"
    refine ⟨a, D, d, fs, _, _, g 8, rfl, XVo.same xv s0, hC, .own _, hk 8 (by decide), ?_⟩
    walk_at "go"
    refine newLB fun l L nl nsl sl el => ?_
    refine r_cat (sl _ _ e2) el (fun p3 P3 np3 sp3 e3 => ?_) (Nat.le_of_ble_eq_true rfl)
    have np3 : H p3 = none := (s0.trans sl).free np3
    replace s0 := (s0.trans sl).trans sp3
    clear e2 el sl nl
    walk_at "go"
    refine ⟨a, D, d, fs, _, _, g 9, rfl, XVo.same xv s0, hC, .own _, hk 9 (by decide), ?_⟩
    walk_at "go"
    refine ⟨a, D, d, fs, _, _, g 10, rfl, XVo.same xv s0, hC, .own _, hk 10 (by decide), ?_⟩
    walk_at "go"
    refine ⟨a, D, d, fs, _, _, g 11, rfl, XVo.same xv s0, hC, .own _, hk 11 (by decide), ?_⟩
    walk_at "go"
    refine newLB fun l L nl nsl sl el => ?_
    refine r_cat (sl _ _ e3) el (fun p4 P4 np4 sp4 e4 => ?_) (Nat.le_of_ble_eq_true rfl)
    have np4 : H p4 = none := (s0.trans sl).free np4
    replace s0 := (s0.trans sl).trans sp4
    clear e3 el sl nl
    walk_at "go"
    refine ⟨a, D, d, fs, _, _, g 12, rfl, XVo.same xv s0, hC, .own _, hk 12 (by decide), ?_⟩
    walk_at "go"
    refine ⟨a, D, d, fs, _, _, g 13, rfl, XVo.same xv s0, hC, .own _, hk 13 (by decide), ?_⟩
    walk_at "go"
    refine ⟨a, D, d, fs, _, _, g 14, rfl, XVo.same xv s0, hC, .own _, hk 14 (by decide), ?_⟩
    walk_at "go"
    refine newLB fun l L nl nsl sl el => ?_
    refine r_cat (sl _ _ e4) el (fun p5 P5 np5 sp5 e5 => ?_) (Nat.le_of_ble_eq_true rfl)
    have np5 : H p5 = none := (s0.trans sl).free np5
    replace s0 := (s0.trans sl).trans sp5
    clear e4 el sl nl
    walk_at "go"
    refine ⟨a, D, d, fs, _, _, g 15, rfl, XVo.same xv s0, hC, .own _, hk 15 (by decide), ?_⟩
    walk_at "go"
    refine ⟨a, D, d, fs, _, _, g 16, rfl, XVo.same xv s0, hC, .own _, hk 16 (by decide), ?_⟩
    walk_at "go"
    refine ⟨a, D, d, fs, _, _, g 17, rfl, XVo.same xv s0, hC, .own _, hk 17 (by decide), ?_⟩
    walk_at "go"
    refine newLB fun l L nl nsl sl el => ?_
    refine r_cat (sl _ _ e5) el (fun p6 P6 np6 sp6 e6 => ?_) (Nat.le_of_ble_eq_true rfl)
    have np6 : H p6 = none := (s0.trans sl).free np6
    replace s0 := (s0.trans sl).trans sp6
    clear e5 el sl nl
    walk_at "go"
    refine ⟨a, D, d, fs, _, _, g 18, rfl, XVo.same xv s0, hC, .own _, hk 18 (by decide), ?_⟩
    walk_at "go"
    refine ⟨a, D, d, fs, _, _, g 19, rfl, XVo.same xv s0, hC, .own _, hk 19 (by decide), ?_⟩
    walk_at "go"
    refine ⟨a, D, d, fs, _, _, g 20, rfl, XVo.same xv s0, hC, .own _, hk 20 (by decide), ?_⟩
    walk_at "go"
    refine newLB fun l L nl nsl sl el => ?_
    refine r_cat (sl _ _ e6) el (fun p7 P7 np7 sp7 e7 => ?_) (Nat.le_of_ble_eq_true rfl)
    have np7 : H p7 = none := (s0.trans sl).free np7
    replace s0 := (s0.trans sl).trans sp7
    clear e6 el sl nl
    walk_at "go"
    refine ⟨a, D, d, fs, _, _, g 21, rfl, XVo.same xv s0, hC, .own _, hk 21 (by decide), ?_⟩
    walk_at "go"
    refine ⟨a, D, d, fs, _, _, g 22, rfl, XVo.same xv s0, hC, .own _, hk 22 (by decide), ?_⟩
    walk_at "go"
    refine ⟨a, D, d, fs, _, _, g 23, rfl, XVo.same xv s0, hC, .own _, hk 23 (by decide), ?_⟩
    walk_at "go"
    refine newLB fun l L nl nsl sl el => ?_
    refine r_cat (sl _ _ e7) el (fun p8 P8 np8 sp8 e8 => ?_) (Nat.le_of_ble_eq_true rfl)
    have np8 : H p8 = none := (s0.trans sl).free np8
    replace s0 := (s0.trans sl).trans sp8
    clear e7 el sl nl
    walk_at "go"
    refine ⟨a, D, d, fs, _, _, g 24, rfl, XVo.same xv s0, hC, .own _, hk 24 (by decide), ?_⟩
    walk_at "go"
    refine ⟨a, D, d, fs, _, _, g 25, rfl, XVo.same xv s0, hC, .own _, hk 25 (by decide), ?_⟩
    walk_at "go"
    refine ⟨a, D, d, fs, _, _, g 26, rfl, XVo.same xv s0, hC, .own _, hk 26 (by decide), ?_⟩
    walk_at "go"
    refine newLB fun l L nl nsl sl el => ?_
    refine r_cat (sl _ _ e8) el (fun p9 P9 np9 sp9 e9 => ?_) (Nat.le_of_ble_eq_true rfl)
    have np9 : H p9 = none := (s0.trans sl).free np9
    replace s0 := (s0.trans sl).trans sp9
    clear e8 el sl nl
    walk_at "go"
    refine ⟨a, D, d, fs, _, _, g 27, rfl, XVo.same xv s0, hC, .own _, hk 27 (by decide), ?_⟩
    walk_at "go"
    refine ⟨a, D, d, fs, _, _, g 28, rfl, XVo.same xv s0, hC, .own _, hk 28 (by decide), ?_⟩
    walk_at "go"
    refine ⟨a, D, d, fs, _, _, g 29, rfl, XVo.same xv s0, hC, .own _, hk 29 (by decide), ?_⟩
    walk_at "go"
    refine newLB fun l L nl nsl sl el => ?_
    refine r_cat (sl _ _ e9) el (fun p10 P10 np10 sp10 e10 => ?_) (Nat.le_of_ble_eq_true rfl)
    have np10 : H p10 = none := (s0.trans sl).free np10
    replace s0 := (s0.trans sl).trans sp10
    clear e9 el sl nl
    walk_at "go"
    refine ⟨a, D, d, fs, _, _, g 30, rfl, XVo.same xv s0, hC, .own _, hk 30 (by decide), ?_⟩
    walk_at "go"
    refine ⟨a, D, d, fs, _, _, g 31, rfl, XVo.same xv s0, hC, .own _, hk 31 (by decide), ?_⟩
    walk_at "go"
    refine newLB fun l L nl nsl sl el => ?_
    refine r_cat (sl _ _ e10) el (fun p11 P11 np11 sp11 e11 => ?_) (Nat.le_of_ble_eq_true rfl)
    have np11 : H p11 = none := (s0.trans sl).free np11
    replace s0 := (s0.trans sl).trans sp11
    clear e10 el sl nl
    walk_at "go"
    refine ⟨a, D, d, fs, _, _, g 32, rfl, XVo.same xv s0, hC, .own _, hk 32 (by decide), ?_⟩
    walk_at "go"
    refine ⟨a, D, d, fs, _, _, g 33, rfl, XVo.same xv s0, hC, .own _, hk 33 (by decide), ?_⟩
    walk_at "go"
    refine newLB fun l L nl nsl sl el => ?_
    refine r_cat (sl _ _ e11) el (fun p12 P12 np12 sp12 e12 => ?_) (Nat.le_of_ble_eq_true rfl)
    have np12 : H p12 = none := (s0.trans sl).free np12
    replace s0 := (s0.trans sl).trans sp12
    clear e11 el sl nl
    walk_at "go"
    exact q _ _ np12 s0 e12
theorem ok_families {f : Addr} {fd : FuncData} (F : Fun K "_law_families" "_law_families" s_families_L f fd) (T : Txt K mg A) : FnOk P w K mg base CX0 1 f fd ["_law_e"] (spFams K A) := by
  refine F.ok sc_families_L (fun vs H Q E h => ?_) (fun cdv A' outer s H vs Q E hr h => ⟨_, (pss_cons (ps_set (i := 1) sc_families_L.nd rfl (.inl rfl) (pe_lstB (pa_cons (pe_callB call_isV (by rfl) T.m_isinstance (by decide +kernel) (pa_cons (pv 0) (pa_cons (pe_glob (v := .ref _) (by rfl) T.g_GuestError rfl) pa_nil))) (pa_cons (pe_callB call_isV (by rfl) T.m_isinstance (by decide +kernel) (pa_cons (pv 0) (pa_cons (pe_glob (v := .ref _) (by rfl) T.g_Missing rfl) pa_nil))) (pa_cons (pe_callB call_isV (by rfl) T.m_isinstance (by decide +kernel) (pa_cons (pv 0) (pa_cons (pe_glob (v := .ref _) (by rfl) T.g_Barred rfl) pa_nil))) pa_nil)))))
    (pss_one (ps_ret (pe_op op_cat (pv 1) (pe_lstB (pa_cons (pe_callB call_isV (by rfl) T.m_isinstance (by decide +kernel) (pa_cons (pv 0) (pa_cons (pe_bltn (v := .ty "ValueError") (by rfl) T.m_ValueError (by decide +kernel) rfl) pa_nil))) (pa_cons (pe_callB call_isV (by rfl) T.m_isinstance (by decide +kernel) (pa_cons (pv 0) (pa_cons (pe_bltn (v := .ty "KeyError") (by rfl) T.m_KeyError (by decide +kernel) rfl) pa_nil))) (pa_cons (pe_callB call_isV (by rfl) T.m_isinstance (by decide +kernel) (pa_cons (pv 0) (pa_cons (pe_bltn (v := .ty "LookupError") (by rfl) T.m_LookupError (by decide +kernel) rfl) pa_nil))) pa_nil)))))))), ?_⟩)
  · obtain ⟨a, D, d, fs, g, rfl, _⟩ := h
    rfl
  · obtain ⟨a, D, d, fs, g, rfl, xv, hC, hk, q⟩ := h
    walk_at "go"
    refine ⟨a, D, d, fs, _, _, g 0, rfl, xv, hC, .own _, hk 0 (by decide), ?_⟩
    walk_at "go"
    refine ⟨a, D, d, fs, _, _, g 1, rfl, xv, hC, .own _, hk 1 (by decide), ?_⟩
    walk_at "go"
    refine ⟨a, D, d, fs, _, _, g 2, rfl, xv, hC, .own _, hk 2 (by decide), ?_⟩
    walk_at "go"
    refine newLB fun p0 P0 np0 ns0 s0 e0 => ?_
    walk_at "go"
    refine ⟨a, D, d, fs, _, _, g 3, rfl, XVo.same xv s0, hC, .ty _, hk 3 (by decide), ?_⟩
    walk_at "go"
    refine ⟨a, D, d, fs, _, _, g 4, rfl, XVo.same xv s0, hC, .ty _, hk 4 (by decide), ?_⟩
    walk_at "go"
    refine ⟨a, D, d, fs, _, _, g 5, rfl, XVo.same xv s0, hC, .ty _, hk 5 (by decide), ?_⟩
    walk_at "go"
    refine newLB fun l L nl nsl sl el => ?_
    refine r_cat (sl _ _ e0) el (fun p1 P1 np1 sp1 e1 => ?_) (Nat.le_of_ble_eq_true rfl)
    exact q _ _ ((s0.trans sl).free np1) ((s0.trans sl).trans sp1) e1
theorem ok_due {f : Addr} {fd : FuncData} (F : Fun K "_law_due_families" "_law_due_families" s_due_families_L f fd) (T : Txt K mg A) : FnOk P w K mg base CX0 1 f fd ["_law_k"] spDue := by
  refine F.ok sc_due_families_L (fun vs H Q E h => ?_) (fun cdv A' outer s H vs Q E hr h => ⟨_, (pss_cons (ps_if (pt_cmpR op_lt (pv 0) pe_int (nomark _)) (pss_one (ps_ret (pe_lstB (pa_cons pe_bl (pa_cons pe_bl (pa_cons pe_bl (pa_cons pe_bl (pa_cons pe_bl (pa_cons pe_bl pa_nil))))))))) pss_nil)
    (pss_cons (ps_if (pt_cmpR op_lt (pv 0) pe_int (nomark _)) (pss_one (ps_ret (pe_lstB (pa_cons pe_bl (pa_cons pe_bl (pa_cons pe_bl (pa_cons pe_bl (pa_cons pe_bl (pa_cons pe_bl pa_nil))))))))) pss_nil)
    (pss_one (ps_ret (pe_lstB (pa_cons pe_bl (pa_cons pe_bl (pa_cons pe_bl (pa_cons pe_bl (pa_cons pe_bl (pa_cons pe_bl pa_nil))))))))))), ?_⟩)
  · obtain ⟨k, rfl, _⟩ := h
    rfl
  · obtain ⟨k, rfl, q⟩ := h
    walk_at "go"
    refine iteC (fun h1 => ?_) (fun h1 => ?_)
    · have e : famN k = 0 := if_pos (by omega)
      rw [e] at q
      walk_at "go"
      exact newLB fun p H' np ns s e => q p H' np s e
    · walk_at "go"
      refine iteC (fun h2 => ?_) (fun h2 => ?_)
      · have e : famN k = 1 := by
          unfold famN
          rw [if_neg (by omega), if_pos (by omega)]
        rw [e] at q
        walk_at "go"
        exact newLB fun p H' np ns s e => q p H' np s e
      · have e : famN k = 2 := by
          unfold famN
          rw [if_neg (by omega), if_neg (by omega)]
        rw [e] at q
        walk_at "go"
        exact newLB fun p H' np ns s e => q p H' np s e
theorem ok_field {f : Addr} {fd : FuncData} (F : Fun K "_law_field" "_law_field" s_field_L f fd) (T : Txt K mg A) : FnOk P w K mg base CX0 1 f fd ["_law_e", "_law_k"] (spField A) := by
  refine F.ok sc_field_L (fun vs H Q E h => ?_) (fun cdv A' outer s H vs Q E hr h => ⟨_, (pss_cons (ps_if (pt_cmpR op_eq (pv 1) pe_int (nomark _)) (pss_one (ps_ret (pe_xv (pv 0)))) pss_nil)
    (pss_cons (ps_if (pt_cmpR op_in_seq (pv 1) (pe_tup (pa_cons pe_int (pa_cons pe_int pa_nil))) (by rfl)) (pss_one (ps_ret (pe_xv (pv 0)))) pss_nil)
    (pss_one (ps_ret (pe_xv (pv 0)))))), ?_⟩)
  · obtain ⟨a, dx, k, v, rfl, _⟩ := h
    rfl
  · obtain ⟨a, dx, k, v, rfl, hk, xv, q⟩ := h
    have hxf := (T.own k (by omega)).xf
    have hnf := T.nf k hk
    walk_at "go"
    refine iteC (fun h1 => ?_) (fun h1 => ?_)
    · have e : fldN k = "at" := if_pos (by injection h1 with h1; omega)
      rw [e] at xv hnf
      walk_at "go"
      exact ⟨_, rfl, a, A.cl k, dx, _, v, rfl, xv, hxf, hnf, by rw [List.lookup_cons, beq_self_eq_true], q H (Same.refl H)⟩
    · have k9 : ¬ k = 9 := fun z => h1 (by rw [z]; rfl)
      walk_at "go"
      refine newT fun t H' nt st et => ?_
      refine ⟨t, _, rfl, .inr (sqT et), rfl, rfl, ?_⟩
      have hin : inV (.int (k : Int)) [.int 21, .int 27] = decide (k = 21 ∨ k = 27) := by
        by_cases z : k = 21
        · subst z; rfl
        · by_cases y : k = 27
          · subst y; rfl
          · rw [decide_eq_false (by omega)]
            refine Bool.eq_false_iff.mpr fun x => ?_
            unfold inV at x
            obtain ⟨u, hu, hb⟩ := List.any_eq_true.mp x
            simp only [List.mem_cons, List.not_mem_nil, or_false] at hu
            rcases hu with rfl | rfl
            · have := of_decide_eq_true (show decide ((21 : Int) = k) = true from hb)
              omega
            · have := of_decide_eq_true (show decide ((27 : Int) = k) = true from hb)
              omega
      rw [hin]
      walk_at "go"
      refine iteC (fun h2 => ?_) (fun h2 => ?_)
      · have e : fldN k = "many" := by
          unfold fldN
          rw [if_neg k9, if_pos h2]
        rw [e] at xv hnf
        walk_at "go"
        exact ⟨_, rfl, a, A.cl k, dx, _, v, rfl, XV.same xv st, hxf, hnf, by rw [List.lookup_cons, beq_self_eq_true], q H' st⟩
      · have e : fldN k = "found" := by
          unfold fldN
          rw [if_neg k9, if_neg h2]
        rw [e] at xv hnf
        walk_at "go"
        exact ⟨_, rfl, a, A.cl k, dx, _, v, rfl, XV.same xv st, hxf, hnf, by rw [List.lookup_cons, beq_self_eq_true], q H' st⟩
end
end K82

namespace K82
open PySem PySem.Spec PyProof.Rows L2 Bk


def Fr (S : List Addr) (H H' : Hp) : Prop := ∀ b o, b ∉ S → H b = some o → H' b = some o
/-- a thing of the law: fp its lists and dicts; m: how many things a list of it has at most -/
inductive Thg (H : Hp) (m : Nat) : List Addr → V → Prop
  | sc {v : V} (h : smS v = true) : Thg H m [] v
  | tup {a : Addr} {xs : List V} (e : H a = some (.tup xs)) (h : ∀ y ∈ xs, smS y = true) (l : xs.length ≤ 5) : Thg H m [] (.ref a)
  | dK {a : Addr} {kvs : List (Key × V)} {x : V} (e : H a = some (.dK kvs)) (h : smS x = true) (hk : kvs = [(.inr "x", x)] ∨ kvs = [(.inr "x", x), (.inr "more", .int 7)]) : Thg H m [a] (.ref a)
  | lst {a : Addr} {xs : List V} {fp : List Addr} (e : H a = some (.lst xs)) (ns : a ≠ sysModules) (l : xs.length ≤ m) (h : ∀ y ∈ xs, smS y = true ∨ (∃ c ∈ fp, y = .ref c) ∨ ∃ t, ∃ c ∈ fp, y = .ref t ∧ H t = some (.tup [.int 1, .ref c])) (na : a ∉ fp)
    (hf : ∀ c ∈ fp, c ≠ sysModules ∧ ∃ ys, H c = some (.lst ys) ∧ (∀ y ∈ ys, smS y = true) ∧ ys.length ≤ 5) : Thg H m (a :: fp) (.ref a)
section
variable {K : PySem.W.Frag} {H H' : Hp} {m n : Nat} {fp : List Addr} {v : V} {bx : Addr}
theorem Thg.keep (o : Thg H m fp v) (k : ∀ b ∈ fp, H' b = H b) (t : ∀ b xs, H b = some (.tup xs) → H' b = some (.tup xs)) (l : m ≤ n) : Thg H' n fp v := by
  cases o with
  | sc h => exact .sc h
  | tup e h l => exact .tup (t _ _ e) h l
  | dK e h hk => exact .dK (by rw [k _ List.mem_cons_self]; exact e) h hk
  | lst e ns l1 h na hf =>
    refine .lst (by rw [k _ List.mem_cons_self]; exact e) ns (by omega) (fun y hy => ?_) na fun c hc => ?_
    · rcases h y hy with z | z | ⟨u, c, hc, e1, e2⟩
      · exact .inl z
      · exact .inr (.inl z)
      · exact .inr (.inr ⟨u, c, hc, e1, t _ _ e2⟩)
    · obtain ⟨h1, ys, h2, h3⟩ := hf c hc
      exact ⟨h1, ys, by rw [k _ (List.mem_cons_of_mem _ hc)]; exact h2, h3⟩
theorem Thg.there (o : Thg H m fp v) : ∀ b ∈ fp, (∃ xs, H b = some (.lst xs)) ∨ ∃ kvs, H b = some (.dK kvs) := by
  cases o with
  | sc h => exact fun b z => nomatch z
  | tup e h l => exact fun b z => nomatch z
  | dK e h hk =>
    intro b z
    obtain rfl := List.mem_singleton.mp z
    exact .inr ⟨_, e⟩
  | lst e ns l1 h na hf =>
    intro b hb
    rcases List.mem_cons.mp hb with z | z
    · exact .inl ⟨_, by rw [z]; exact e⟩
    · obtain ⟨_, ys, h2, _⟩ := hf b z
      exact .inl ⟨ys, h2⟩
theorem Thg.ob (o : Thg H m fp v) {b : Addr} (hb : b ∈ fp) : ∃ o, H b = some o := (o.there b hb).elim (fun ⟨_, e⟩ => ⟨_, e⟩) fun ⟨_, e⟩ => ⟨_, e⟩
theorem Thg.same (o : Thg H m fp v) (s : Same H H') : Thg H' m fp v := o.keep (fun b hb => by
    obtain ⟨xs, e⟩ := o.ob hb
    rw [e]; exact s _ _ e) (fun b xs e => s _ _ e) (Nat.le_refl _)
theorem Thg.fr {S : List Addr} (o : Thg H m fp v) (f : Fr S H H') (d : ∀ b ∈ fp, b ∉ S) (t : ∀ b ∈ S, ∀ xs, H b ≠ some (.tup xs)) : Thg H' m fp v := o.keep (fun b hb => by
    obtain ⟨xs, e⟩ := o.ob hb
    rw [e]; exact f _ _ (d b hb) e) (fun b xs e => f _ _ (fun z => t b z xs e) e) (Nat.le_refl _)
theorem Thg.notup (o : Thg H m fp v) : ∀ b ∈ fp, ∀ xs, H b ≠ Option.some (.tup xs) := fun b hb xs e => by
  rcases o.there b hb with ⟨ys, z⟩ | ⟨ys, z⟩ <;> rw [z] at e <;> exact nomatch e
theorem Thg.but {xs : List V} (o : Thg H m fp v) (eb : H bx = some (.lst xs)) (n : bx ∉ fp) (s : But bx H H') : Thg H' m fp v := o.keep (fun b hb => by
    obtain ⟨xs, e⟩ := o.ob hb
    rw [e]; exact s _ _ (fun z => n (z ▸ hb)) e) (fun b xs e => s _ _ (fun z => by rw [z, eb] at e; exact nomatch e) e) (Nat.le_refl _)
theorem Thg.le (o : Thg H m fp v) (l : m ≤ n) : Thg H n fp v := o.keep (fun _ _ => rfl) (fun _ _ e => e) l
theorem sm_x : smS (.str "x") = true := by decide +kernel
theorem Thg.it (o : Thg H m fp v) : ItQ true K H (2000 + 1400 * m) v := by
  cases o with
  | sc h => exact ((itd_sc h).q (by decide)).mono (by omega)
  | tup e h l => exact ((itd_tup (m := 100) (k := 0) (M := 2000) (sqT e) (fun y hy => itd_sc (h y hy)) (by omega)).q (by decide)).mono (by omega)
  | dK e h hk =>
    refine ((itd_dK e (fun q hq => ?_) (by rcases hk with rfl | rfl <;> exact Nat.le_of_ble_eq_true rfl)).q (by decide)).mono (by omega)
    rcases hk with rfl | rfl
    · rw [List.mem_singleton.mp hq]
      exact ⟨sm_x, h⟩
    · simp only [List.mem_cons, List.not_mem_nil, or_false] at hq
      rcases hq with rfl | rfl
      · exact ⟨sm_x, h⟩
      · exact ⟨by decide +kernel, by decide +kernel⟩
  | lst e ns l1 h na hf =>
    have il : ∀ {c : Addr}, c ∈ _ → ItD true K H 600 1 (.ref c) := fun {c} hc => by
      obtain ⟨n1, ys, h2, h3, h4⟩ := hf c hc
      exact itd_lst (m := 100) (k := 0) (M := 600) (sqL h2) (fun _ => n1) (fun y hy => itd_sc (h3 y hy)) (by omega)
    refine ((itd_lst (m := 1300) (k := 2) (M := 2000 + 1400 * m) (sqL e) (fun _ => ns) (fun y hy => ?_) (by
      have := Nat.mul_le_mul_left 1301 l1
      omega)).q (by decide)).mono (by omega)
    rcases h y hy with z | ⟨c, hc, rfl⟩ | ⟨t, c, hc, rfl, e2⟩
    · exact (itd_sc z).mono (by omega) (by omega)
    · exact (il hc).mono (by omega) (by omega)
    · refine (itd_tup (m := 600) (k := 1) (M := 1300) (sqT e2) (fun y hy => ?_) (by show 601 * 2 ≤ 1300; decide))
      simp only [List.mem_cons, List.not_mem_nil, or_false] at hy
      rcases hy with rfl | rfl
      · exact (itd_sc (by decide +kernel)).mono (by omega) (by omega)
      · exact il hc
theorem Thg.shq (o : Thg H m fp v) (l : m ≤ 20) : ∃ z, Shq K H v z := (o.it (K := K)).shq (by omega)
theorem Thg.growL {a : Addr} {xs : List V} {y : V} (o : Thg H m fp (.ref a)) (ea : H a = Option.some (.lst xs)) (hy : smS y = true) : Thg (upd H a (.lst (xs ++ [y]))) (m + 1) fp (.ref a) ∧ a ∈ fp := by
  cases o with
  | sc h => exact nomatch h
  | tup e h l => rw [ea] at e; exact nomatch e
  | dK e h l => rw [ea] at e; exact nomatch e
  | @lst _ xs2 fp2 e ns l1 h na hf =>
    rw [ea] at e
    obtain rfl : xs = xs2 := by injection (Option.some.inj e)
    refine ⟨.lst upd_same ns (by rw [List.length_append]; exact Nat.succ_le_succ l1) (fun z hz => ?_) na fun c hc => ?_, List.mem_cons_self⟩
    · rcases List.mem_append.mp hz with z1 | z1
      · rcases h z z1 with z | z | ⟨u, c, hc, e1, e2⟩
        · exact .inl z
        · exact .inr (.inl z)
        · exact .inr (.inr ⟨u, c, hc, e1, by rw [upd_ne (fun q => by rw [q, ea] at e2; exact nomatch e2)]; exact e2⟩)
      · rw [List.mem_singleton.mp z1]; exact .inl hy
    · obtain ⟨n1, ys, h2, h3⟩ := hf c hc
      exact ⟨n1, ys, by rw [upd_ne (fun q => na (by rw [← q]; exact hc))]; exact h2, h3⟩
theorem fr_upd {a : Addr} {o : HO} (h : a ∈ fp) : Fr fp H (upd H a o) := fun b o' nb e => by
  rw [upd_ne (fun z => nb (by rw [z]; exact h))]
  exact e
end
def spThing : Sp := fun vs H Q _ => ∃ (a : Addr) (n : Nat), vs = [.ref a] ∧ Box a n H ∧ n < 900000 ∧ ∀ v fp H', Thg H' 2 fp v → (∀ b ∈ fp, H b = none) → Box a (n + 3) H' → But a H H' → Q v H'
def spGrown : Sp := fun vs H Q _ => ∃ (v : V) (fp : List Addr) (m : Nat), vs = [v] ∧ Thg H m fp v ∧ m ≤ 50 ∧ ∀ H', Thg H' (m + 1) fp v → Fr fp H H' → Q .non H'
theorem sm_tea {i : Int} (h : i.natAbs < 10 ^ 38) : smS (.str (Str.ofString "tea " ++ Str.ofString (toString i))) = true := by
  have h2 : (PyData.int i).shown.length ≤ 40 := by
    have := (smQ_ok (.int i) (by simpa only [smQ, decide_eq_true_eq] using h)).2
    simpa only [PyData.leavesShort, decide_eq_true_eq] using this
  have h2 : (Str.ofString (toString i)).length ≤ 40 := by simpa only [PyData.shown] using h2
  show (decide _ && _) = true
  rw [Bool.and_eq_true]
  refine ⟨decide_eq_true ?_, List.all_eq_true.mpr fun c hc => decide_eq_true ?_⟩
  · have z : (Str.ofString "tea ").length = 4 := by decide +kernel
    rw [Str.length_append]
    omega
  · have g : ∀ s : String, ∀ c ∈ (Str.ofString s).cps.toList, c < 16 ^ 8 := fun s c hc => by
      rw [Str.ofString_eq_toList] at hc
      obtain ⟨d, _, rfl⟩ := List.mem_map.mp hc
      exact d.val.toNat_lt
    have hc : c ∈ (Str.ofString "tea ").cps.toList ++ (Str.ofString (toString i)).cps.toList := by
      rw [← Array.toList_append]
      exact hc
    exact (List.mem_append.mp hc).elim (g _ c) (g _ c)
section
variable {P : Program} {w : World} {K : PySem.W.Frag} {mg : Str → Option Value} {base : Heap} {A : Ad}
theorem ok_thing {f : Addr} {fd : FuncData} (F : Fun K "_law_thing" "_law_thing" s_thing_L f fd) (T : Txt K mg A) (c_take_L : CalD P w K mg base CX0 1 "_law_take" spTake []) : FnOk P w K mg base CX0 2 f fd ["_law_box_here"] spThing := by
  refine F.ok sc_thing_L (fun vs H Q E h => ?_) (fun cdv A' outer s H vs Q E hr h => ⟨_, (pss_cons (ps_set (i := 1) sc_thing_L.nd rfl (.inl rfl) (pe_cal c_take_L hr (by decide) (by rfl) (pa_cons (pv 0) (pa_cons pe_int pa_nil))))
    (pss_cons (ps_set (i := 2) sc_thing_L.nd rfl (.inl rfl) (pe_op op_sub (pe_cal c_take_L hr (by decide) (by rfl) (pa_cons (pv 0) (pa_cons (pe_op op_pow pe_int pe_int) pa_nil))) (pe_cal c_take_L hr (by decide) (by rfl) (pa_cons (pv 0) (pa_cons (pe_op op_pow pe_int pe_int) pa_nil)))))
    (pss_one (ps_ret (pe_ix ix_list (pe_lstB (pa_cons (pv 2) (pa_cons (pe_op op_add_str pe_str (pe_callTy call_str_int (by rfl) T.m_str (by decide +kernel) (pa_cons (pv 2) pa_nil))) (pa_cons pe_bl (pa_cons pe_non (pa_cons (pe_tup (pa_cons (pv 2) (pa_cons pe_str pa_nil))) (pa_cons (pe_lstB (pa_cons (pv 2) pa_nil)) (pa_cons (pe_disp (pps_cons pe_str (pv 2) pps_nil) rfl rfl (by simp) (by decide)) (pa_cons (pe_lstB (pa_cons (pe_lstB (pa_cons (pv 2) pa_nil)) (pa_cons (pe_tup (pa_cons pe_int (pa_cons (pe_lstB (pa_cons pe_int pa_nil)) pa_nil))) pa_nil))) pa_nil))))))))) (pv 1) (fun _ _ => rfl)))))), ?_⟩)
  · obtain ⟨a, n, rfl, _⟩ := h
    rfl
  · obtain ⟨a, n, rfl, hB, hn, q⟩ := h
    walk_at "go"
    refine r_take hB fun d1 H1 d10 d11 hB1 b1 => ?_
    walk_at "go"
    refine r_I ⟨by decide, by decide, by decide⟩ ?_
    walk_at "go"
    refine r_take hB1 (fun d2 H2 d20 d21 hB2 b2 => ?_) (by omega) (by decide +kernel) (by decide +kernel)
    walk_at "go"
    refine r_I ⟨by decide, by decide, by decide⟩ ?_
    walk_at "go"
    refine r_take hB2 (fun d3 H3 d30 d31 hB3 b3 => ?_) (by omega) (by decide +kernel) (by decide +kernel)
    have hv : (d2 - d3).natAbs < 10 ^ 38 := by
      have e1 : (10 : Int) ^ (30 : Nat) = 1000000000000000000000000000000 := by decide +kernel
      have e2 : (10 : Int) ^ (29 : Nat) = 100000000000000000000000000000 := by decide +kernel
      have d21 : d2 < 1000000000000000000000000000000 := by
        rw [← e1]
        exact d21
      have d31 : d3 < 100000000000000000000000000000 := by
        rw [← e2]
        exact d31
      have e3 : (10 : Nat) ^ 38 = 100000000000000000000000000000000000000 := by decide +kernel
      rw [e3]
      omega
    have hlg : (d2 - d3).natAbs.log2 < 1920 := by
      have := (smQ_ok (.int (d2 - d3)) (by simpa only [smQ, decide_eq_true_eq] using hv)).1
      simpa only [PyData.showable, decide_eq_true_eq] using this
    walk_at "go"
    refine ⟨_, rfl, hlg, ?_⟩
    refine ⟨_, _, rfl, rfl, ?_⟩
    have st := sm_tea hv
    have si : smS (.int (d2 - d3)) = true := smS_int hv
    have ll : (Str.ofString "tea ").length + (Str.ofString (toString (d2 - d3))).length ≤ 1000 := by
      have z := Bool.and_eq_true_iff.mp (show (decide _ && _) = true from st)
      have z := of_decide_eq_true z.1
      rw [Str.length_append] at z
      omega
    refine ⟨Nat.le_trans ll (by decide), ?_⟩
    generalize (Str.ofString "tea " ++ Str.ofString (toString (d2 - d3))) = tea at st ⊢
    generalize d2 - d3 = i at si ⊢
    walk_at "go"
    have na : ∀ {p : Addr} {G : Hp}, Box a (n + 3) G → G p = none → p ≠ a := fun hB h => hB.ne h
    refine newT fun p1 G1 n1 s1 e1 => ?_
    walk_at "go"
    refine newLB fun p2 G2 n2 g2 s2 e2 => ?_
    walk_at "go"
    refine r_dispV (k := .inr "x") rfl fun p3 G3 n3 s3 e3 => ?_
    walk_at "go"
    refine newLB fun p4 G4 n4 g4 s4 e4 => ?_
    walk_at "go"
    refine newLB fun p5 G5 n5 g5 s5 e5 => ?_
    walk_at "go"
    refine newT fun p6 G6 n6 s6 e6 => ?_
    walk_at "go"
    refine newLB fun p7 G7 n7 g7 s7 e7 => ?_
    walk_at "go"
    refine newLB fun p8 G8 n8 g8 s8 e8 => ?_
    walk_at "go"
    have s03 : But a H H3 := (b1.trans b2).trans b3
    have k2 := s1
    have k3 := k2.trans s2
    have k4 := k3.trans s3
    have k5 := k4.trans s4
    have k6 := k5.trans s5
    have k7 := k6.trans s6
    have k8 := k7.trans s7
    have k9 := k8.trans s8
    have fr : ∀ {p : Addr} {G : Hp}, Same H3 G → G p = none → H p = none := fun {p G} s h => by
      have ne : p ≠ a := (hB3.same s).ne h
      cases e : H p with
      | none => rfl
      | some o => rw [s _ _ (s03 _ _ ne e)] at h; exact nomatch h
    have hB8 := hB3.same k9
    have n45 : p4 ≠ p5 := ne_of_none e4 n5
    have n47 : p4 ≠ p7 := ne_of_none (s6 _ _ (s5 _ _ e4)) n7
    have n57 : p5 ≠ p7 := ne_of_none (s6 _ _ e5) n7
    have e1 := s8 _ _ (s7 _ _ (s6 _ _ (s5 _ _ (s4 _ _ (s3 _ _ (s2 _ _ e1))))))
    have e2 := s8 _ _ (s7 _ _ (s6 _ _ (s5 _ _ (s4 _ _ (s3 _ _ e2)))))
    have e3 := s8 _ _ (s7 _ _ (s6 _ _ (s5 _ _ (s4 _ _ e3))))
    have e4 := s8 _ _ (s7 _ _ (s6 _ _ (s5 _ _ e4)))
    have e5 := s8 _ _ (s7 _ _ (s6 _ _ e5))
    have e6 := s8 _ _ (s7 _ _ e6)
    have e7 := s8 _ _ e7
    refine r_ixLo (sqL e8) d10 d11 fun v hv _ => ?_
    refine (fun z : ∃ fp, Thg G8 2 fp v ∧ ∀ b ∈ fp, H b = none => let ⟨fp, o, fr⟩ := z; q v fp G8 o fr hB8 (s03.same k9)) ?_
    simp only [List.mem_cons, List.not_mem_nil, or_false] at hv
    rcases hv with rfl | rfl | rfl | rfl | rfl | rfl | rfl | rfl
    · exact ⟨[], .sc si, fun _ z => nomatch z⟩
    · exact ⟨[], .sc st, fun _ z => nomatch z⟩
    · exact ⟨[], .sc rfl, fun _ z => nomatch z⟩
    · exact ⟨[], .sc rfl, fun _ z => nomatch z⟩
    · refine ⟨[], .tup e1 (fun y hy => ?_) (Nat.le_of_ble_eq_true rfl), fun _ z => nomatch z⟩
      simp only [List.mem_cons, List.not_mem_nil, or_false] at hy
      rcases hy with rfl | rfl
      · exact si
      · exact sm_x
    · refine ⟨[p2], .lst e2 g2 (Nat.le_of_ble_eq_true rfl) (fun y hy => .inl ?_) (fun z => nomatch z) (fun c z => nomatch z), fun b hb => ?_⟩
      · rw [List.mem_singleton.mp hy]
        exact si
      · rw [List.mem_singleton.mp hb]
        exact fr k2 n2
    · refine ⟨[p3], .dK e3 si (.inl rfl), fun b hb => ?_⟩
      rw [List.mem_singleton.mp hb]
      exact fr k3 n3
    · refine ⟨[p7, p4, p5], .lst e7 g7 (Nat.le_refl 2) (fun y hy => ?_) (fun z => ?_) (fun c hc => ?_), fun b hb => ?_⟩
      · simp only [List.mem_cons, List.not_mem_nil, or_false] at hy
        rcases hy with rfl | rfl
        · exact .inr (.inl ⟨p4, List.mem_cons_self, rfl⟩)
        · exact .inr (.inr ⟨p6, p5, List.mem_cons_of_mem _ List.mem_cons_self, rfl, e6⟩)
      · simp only [List.mem_cons, List.not_mem_nil, or_false] at z
        rcases z with z | z
        · exact n47 z.symm
        · exact n57 z.symm
      · simp only [List.mem_cons, List.not_mem_nil, or_false] at hc
        rcases hc with rfl | rfl
        · exact ⟨g4, _, e4, fun y hy => by rw [List.mem_singleton.mp hy]; exact si, Nat.le_of_ble_eq_true rfl⟩
        · exact ⟨g5, _, e5, fun y hy => by rw [List.mem_singleton.mp hy]; decide +kernel, by decide⟩
      · simp only [List.mem_cons, List.not_mem_nil, or_false] at hb
        rcases hb with rfl | rfl | rfl
        · exact fr k7 n7
        · exact fr k4 n4
        · exact fr k5 n5
theorem ok_grown {f : Addr} {fd : FuncData} (F : Fun K "_law_grown" "_law_grown" s_grown_L f fd) (T : Txt K mg A) : FnOk P w K mg base CX0 1 f fd ["_law_thing_here"] spGrown := by
  refine F.ok sc_grown_L (fun vs H Q E h => ?_) (fun cdv A' outer s H vs Q E hr h => have hu := hu_of hr; ⟨_, (pss_cons (ps_if (pt_val (pe_callB call_is (by rfl) T.m_isinstance (by decide +kernel) (pa_cons (pv 0) (pa_cons (pe_bltn (v := .ty "list") (by rfl) T.m_list (by decide +kernel) rfl) pa_nil)))) (pss_one (ps_expr (pe_bm PySem.F.plainAttrs_list PySem.F.slot_list_append PySem.F.type_list_append mt_append (pv 0) (pa_cons pe_str pa_nil)))) pss_nil)
    (pss_one (ps_if (pt_val (pe_callB call_is (by rfl) T.m_isinstance (by decide +kernel) (pa_cons (pv 0) (pa_cons (pe_bltn (v := .ty "dict") (by rfl) T.m_dict (by decide +kernel) rfl) pa_nil)))) (pss_one (ps_asg pe_int (pg_sub (pv 0) pe_str (set_dict hu)))) pss_nil))), ?_⟩)
  · obtain ⟨v, fp, m, rfl, _⟩ := h
    rfl
  · obtain ⟨v, fp, m, rfl, t, hm, q⟩ := h
    have t0 := t
    walk_at "go"
    cases t with
    | @sc v h =>
      have hs : IsA K H v "list" false ∧ IsA K H v "dict" false := by
        cases v with
        | int i => exact ⟨isa_int, isa_int⟩
        | bl b => exact ⟨isa_bl, isa_bl⟩
        | non => exact ⟨isa_non, isa_non⟩
        | str z => exact ⟨isa_str, isa_str⟩
        | _ => exact nomatch h
      refine r_is hs.1 ?_
      walk_at "go"
      refine r_is hs.2 ?_
      walk_at "go"
      exact q _ (t0.le (Nat.le_succ _)) (fun _ _ _ e => e)
    | tup e h l =>
      refine r_is (isa_tup e (b := false)) ?_
      walk_at "go"
      refine r_is (isa_tup e (b := false)) ?_
      walk_at "go"
      exact q _ (t0.le (Nat.le_succ _)) (fun _ _ _ e => e)
    | @dK a kvs x e h hk =>
      refine r_is (isa_dK e (b := false)) ?_
      walk_at "go"
      refine r_is (isa_dK e (b := true)) ?_
      walk_at "go"
      refine ⟨a, _, rfl, .k (k := .inr "more") e (by rcases hk with rfl | rfl <;> exact Nat.le_of_ble_eq_true rfl), ?_⟩
      walk_at "go"
      refine q _ (.dK upd_same h (.inr ?_)) (fr_upd List.mem_cons_self)
      rcases hk with rfl | rfl <;> rfl
    | @lst a xs fp e ns l1 h na hf =>
      refine r_is (isa_lst e (b := true)) ?_
      walk_at "go"
      obtain ⟨t1, m1⟩ := t0.growL e (y := .str "more") (by decide +kernel)
      refine ⟨.inl ⟨rfl, xs, sqL e⟩, ?_⟩
      walk_at "go"
      refine ⟨a, xs, .str "more", rfl, rfl, e, by rw [sizeLine_eq]; omega, ?_⟩
      walk_at "go"
      refine r_is (isa_lst (xs := xs ++ [.str "more"]) upd_same (b := false)) ?_
      walk_at "go"
      exact q _ t1 (fr_upd m1)
end
end K82

namespace K82
open PySem PySem.Spec PyProof.Rows L2 Bk


theorem lay_bls : ∀ bs : List Bool, PyData.canLayAll0 ((bs.map V.bl).map datS) = true
  | [] => rfl
  | b :: bs => by
    rw [List.map_cons, List.map_cons]
    simp only [PyData.canLayAll0, datS, PyData.canLay0, lay_bls bs, Bool.and_self]
theorem sh_bls (bs : List Bool) : SeqAt.shaped (.list ((bs.map V.bl).map datS)) = true := by
  have h : PyData.depthAll ((bs.map V.bl).map datS) = 0 := (datSs (K := []) (H := fun _ => none) (smS_bls (bs := bs))).2.2.2
  unfold SeqAt.shaped
  simp only [PyData.canLay0, lay_bls bs, PyData.depth, h]
  decide
theorem dp_bls {K : PySem.W.Frag} {p : Addr} {G : Hp} {bs : List Bool} (e : G p = some (.lst (bs.map V.bl))) : Dp K G (.ref p) (.list ((bs.map V.bl).map datS)) := .lst (sqL e) (datSs smS_bls).1
section
variable {σ : L2.St} {H : Hp} {Q : VK} {j : Nat} {vs : List Nat} {te : TE}
theorem lcR (n : Nat) (p : Nat → Bool) (hl : n ≤ 1000) (hw : ∀ x, wipe ((wipe σ vs).set j (some x)) vs = wipe σ vs)
    (ht : ∀ (i : Nat) (H' : Hp) (Q' : VK), i < n → Same H H' → (∀ H2, Same H' H2 → Q' (.bl (p i)) H2) → te ((wipe σ vs).set j (some (.int (i : Int)))) H' Q')
    (q : ∀ D H', H D = none → Same H H' → H' D = some (.lst (((List.range n).map p).map V.bl)) → Q (.ref D) H') : tLc (iRng1 (tCons (tC (.int n)) tNil)) (gName j) tYes te vs σ H Q := by
  refine ⟨_, rfl, by omega, by omega, fun D hD => ?_⟩
  rw [Int.toNat_natCast]
  refine lc_map (j := j) walk_range (fun i H1 x H2 _ z => z.1) (fun i => .bl (p i)) (by omega) (fun _ _ => trivial) hw (fun i y H1 H' Q' hi e sm k => ?_) (fun D H' h1 h2 h3 => q D H' h1 h2 (by rw [h3, List.map_map]; rfl)) hD
  obtain ⟨rfl, rfl⟩ := e
  show te ((wipe σ vs).set j (some (.int (0 + (i : Int))))) _ _
  rw [Int.zero_add]
  exact ht i _ Q' hi sm k
end
theorem eqN {k i : Nat} : (k == i) = decide (V.int (i : Int) = V.int (k : Int)) := by
  by_cases h : k = i
  · subst h
    rw [beq_self_eq_true, decide_eq_true rfl]
  · rw [beq_eq_false_iff_ne.mpr h, decide_eq_false (fun z => h (by injection z with z; omega))]
def spRight (A : Ad) : Sp := fun vs H Q _ => ∃ (e dx : Addr) (k m : Nat) (v : V) (fp : List Addr), vs = [.ref e, .int k, v] ∧ k < 32 ∧ XV H e (A.cl k) dx [(fldN k, v)] ∧ Thg H m fp v ∧ m ≤ 15 ∧ ∀ H', Thg H' (m + 1) fp v → Fr fp H H' → Q (.bl true) H'
theorem XV.fr {S : List Addr} {H H' : Hp} {a D dx : Addr} {fs : List (Str × V)} (x : XV H a D dx fs) (f : Fr S H H') (d : ∀ b ∈ S, (∃ xs, H b = some (.lst xs)) ∨ ∃ kvs, H b = some (.dK kvs)) : XV H' a D dx fs :=
  ⟨f _ _ (fun z => by rcases d _ z with ⟨_, e⟩ | ⟨_, e⟩ <;> rw [x.1] at e <;> exact nomatch e) x.1, f _ _ (fun z => by rcases d _ z with ⟨_, e⟩ | ⟨_, e⟩ <;> rw [x.2] at e <;> exact nomatch e) x.2⟩
theorem Fr.pre {S : List Addr} {H H1 H2 : Hp} (s : Same H H1) (f : Fr S H1 H2) : Fr S H H2 := fun b o nb e => f b o nb (s _ _ e)
theorem Fr.post {S : List Addr} {H H1 H2 : Hp} (f : Fr S H H1) (s : Same H1 H2) : Fr S H H2 := fun b o nb e => s _ _ (f b o nb e)
section
variable {P : Program} {w : World} {K : PySem.W.Frag} {mg : Str → Option Value} {base : Heap} {A : Ad}
theorem ok_right {f : Addr} {fd : FuncData} (F : Fun K "_law_right" "_law_right" s_right_L f fd) (T : Txt K mg A) (c_classes_L : CalD P w K mg base CX0 1 "_law_classes" (spClasses K A) []) (c_families_L : CalD P w K mg base CX0 1 "_law_families" (spFams K A) [])
    (c_due_families_L : CalD P w K mg base CX0 1 "_law_due_families" spDue []) (c_grown_L : CalD P w K mg base CX0 1 "_law_grown" spGrown []) (c_field_L : CalD P w K mg base CX0 1 "_law_field" (spField A) []) :
    FnG P w K mg base CX0 2 f fd ["_law_e", "_law_k", "_law_thing_here"] (spRight A) := by
  refine fun_okG F sc_right_L (fun vs H Q E h => ?_) (fun cdv A' outer s H vs Q E ga hr h => have hu64 := hr.units; ⟨_, (pss_cons (ps_if (PW.pt (pw_or (pt_cmpR (op_neD hu64) (pe_cal c_classes_L hr (by decide) (by rfl) (pa_cons (pv 0) pa_nil)) (pe_lc (own := [("_law_j", 3)]) rfl sc_right_L.nd (pi_range1 (by rfl) T.m_range (pa_cons pe_int pa_nil)) (blkOk_by (N := ["_law_e", "_law_k", "_law_thing_here", "_law_j"]) (sc := defScope s_right_L) (by decide +kernel)) (fun _ _ _ _ _ => (pg_name (i := 3) sc_right_L.nd rfl (.inl rfl))) (fun _ _ _ _ _ => pts_nil) (fun _ _ _ _ _ => (pe_cmpR op_eq (pv 3) (pv 1) (nomark _)))) (nomark _)) (pw_or1 (pt_cmpR (op_neD hu64) (pe_cal c_families_L hr (by decide) (by rfl) (pa_cons (pv 0) pa_nil)) (pe_cal c_due_families_L hr (by decide) (by rfl) (pa_cons (pv 1) pa_nil)) (nomark _))))) (pss_one (ps_ret pe_bl)) pss_nil)
    (pss_cons (ps_expr (pe_cal c_grown_L hr (by decide) (by rfl) (pa_cons (pv 2) pa_nil)))
    (pss_one (ps_ret (pe_cmpR op_eq (pe_callB (call_repr_shq ga hr) (by rfl) T.m_repr (by decide +kernel) (pa_cons (pe_cal c_field_L hr (by decide) (by rfl) (pa_cons (pv 0) (pa_cons (pv 1) pa_nil))) pa_nil)) (pe_callB (call_repr_shq ga hr) (by rfl) T.m_repr (by decide +kernel) (pa_cons (pv 2) pa_nil)) (nomark _)))))), ?_⟩)
  · obtain ⟨e, dx, k, m, v, fp, rfl, _⟩ := h
    rfl
  · obtain ⟨e, dx, k, m, v, fp, rfl, hk, xv, t, hm, q⟩ := h
    have hxc := (T.own k (by omega)).xc
    walk_at "go"
    refine ⟨e, _, some dx, _, (k == ·), rfl, XV.o xv, hxc, fun j hj => T.tab k j (by omega) hj, fun p1 H1 n1 s1 e1 => ?_⟩
    walk_at "go"
    refine lcR 34 (k == ·) (by decide) (fun _ => rfl) (fun i G Q' hi sm kk => ?_) fun p2 H2 n2 s2 e2 => ?_
    · walk_at "go"
      have z := kk G (Same.refl G)
      rwa [show (k == i) = decide (V.int (i : Int) = V.int (k : Int)) from eqN] at z
    walk_at "go"
    refine r_neSame (dp_bls (s2 _ _ e1)) (dp_bls e2) (sh_bls _) ?_
    walk_at "go"
    refine ⟨e, _, some dx, _, famsN (famN k), rfl, XVo.same (XVo.same (XV.o xv) s1) s2, hxc, fun j hj => T.fams k j (by omega) hj, fun p3 H3 n3 s3 e3 => ?_⟩
    walk_at "go"
    refine ⟨k, rfl, fun p4 H4 n4 s4 e4 => ?_⟩
    walk_at "go"
    refine r_neSame (dp_bls (s4 _ _ e3)) (dp_bls e4) (sh_bls _) ?_
    walk_at "go"
    have s04 : Same H H4 := ((s1.trans s2).trans s3).trans s4
    clear s1 s2 s3 s4 e1 e2 e3 e4 n1 n2 n3 n4
    have t4 := t.same s04
    refine ⟨v, fp, m, rfl, t4, by omega, fun H5 t5 f5 => ?_⟩
    walk_at "go"
    have xv5 : XV H5 e (A.cl k) dx [(fldN k, v)] := XV.fr (XV.same xv s04) f5 t4.there
    refine ⟨e, dx, k, v, rfl, hk, xv5, fun H6 s6 => ?_⟩
    obtain ⟨z, hz⟩ := (t5.same s6).shq (K := K) (by omega)
    walk_at "go"
    refine ⟨_, z, rfl, hz, ?_⟩
    walk_at "go"
    refine ⟨_, z, rfl, hz, ?_⟩
    walk_at "go"
    rw [decide_eq_true rfl]
    exact q H6 (t5.same s6) (Fr.post (Fr.pre s04 f5) s6)
end
end K82

namespace K82
open PySem PySem.Spec PyProof.Rows L2 Bk


theorem mk_two {C : Addr} {x y : V} {H : Hp} {Q : VK} (q : ∀ a dx H', H a = none → Same H H' → XV H' a C dx [("at", y), ("found", x)] → Q (.ref a) H') : ∀ a, H a = none → spInit2 C [.ref a, x, y] (upd H a (exo a C none)) (fun u H3 => u = .non ∧ Q (.ref a) H3) (fun _ _ _ => False) := fun a na =>
  ⟨a, x, y, rfl, upd_same, fun dx H' hd ne k e1 e2 => ⟨rfl, q a dx H' na (fun b o e => k b o (ne_of_none e na) (by rw [upd_ne (ne_of_none e na)]; exact e)) ⟨e1, e2⟩⟩⟩
theorem mk_zero {C : Addr} {H : Hp} {Q : VK} (q : ∀ a H', H a = none → Same H H' → XVo H' a C none [] → Q (.ref a) H') : ∀ a, H a = none → spInit0 C [.ref a] (upd H a (exo a C none)) (fun u H3 => u = .non ∧ Q (.ref a) H3) (fun _ _ _ => False) := fun a na =>
  ⟨a, rfl, upd_same, rfl, q a _ na (same_upd na) ⟨upd_same, rfl⟩⟩
theorem two_same {a : Addr} {H H' : Hp} {X : HO} (na : H a = none) (k : ∀ b o, b ≠ a → upd H a X b = some o → H' b = some o) : Same H H' := fun b o e => k b o (ne_of_none e na) (by rw [upd_ne (ne_of_none e na)]; exact e)
theorem r_eqSame {K : PySem.W.Frag} {H : Hp} {x y : V} {Q : VK} {d : PyData} (h1 : Dp K H x d) (h2 : Dp K H y d) (s : SeqAt.shaped d = true) (q : Q (.bl true) H) : rEqD K x y H Q :=
  ⟨d, d, h1, h2, s, s, by rw [SeqAt.eqv_refl d (SeqAt.canLay_of_shaped s)]; exact q⟩
def spTwo : Sp := fun vs H Q _ => ∃ (v1 v2 : V) (m : Nat) (f1 f2 : List Addr), vs = [v1, v2] ∧ Thg H m f1 v1 ∧ Thg H m f2 v2 ∧ (∀ b ∈ f1, b ∉ f2) ∧ m ≤ 10 ∧ ∀ H', Fr (f1 ++ f2) H H' → Q (.bl true) H'
theorem Fr.left {S T : List Addr} {H H' : Hp} (f : Fr S H H') : Fr (S ++ T) H H' := fun b o nb e => f b o (fun z => nb (List.mem_append_left _ z)) e
theorem Fr.right {S T : List Addr} {H H' : Hp} (f : Fr T H H') : Fr (S ++ T) H H' := fun b o nb e => f b o (fun z => nb (List.mem_append_right _ z)) e
theorem Fr.trans {S : List Addr} {H H1 H2 : Hp} (f : Fr S H H1) (g : Fr S H1 H2) : Fr S H H2 := fun b o nb e => g b o nb (f b o nb e)
section
variable {P : Program} {w : World} {K : PySem.W.Frag} {mg : Str → Option Value} {base : Heap} {A : Ad}
theorem ok_two {f : Addr} {fd : FuncData} (F : Fun K "_law_two_right" "_law_two_right" s_two_right_L f fd) (T : Txt K mg A) (O : Os P w K mg base A) (c_classes_L : CalD P w K mg base CX0 1 "_law_classes" (spClasses K A) []) (c_families_L : CalD P w K mg base CX0 1 "_law_families" (spFams K A) [])
    (c_due_families_L : CalD P w K mg base CX0 1 "_law_due_families" spDue []) (c_grown_L : CalD P w K mg base CX0 1 "_law_grown" spGrown []) :
    FnG P w K mg base CX0 4 f fd ["_law_one", "_law_other"] spTwo := by
  refine fun_okG F sc_two_right_L (fun vs H Q E h => ?_) (fun cdv A' outer s H vs Q E ga hr h => have hu64 := hr.units; ⟨_, (pss_cons (ps_for PassesOwn.never rfl (pi_list (pe_lstB (pa_cons (pe_oeP O.p_Parted hr (by decide) (by rfl) (pa_cons (pv 0) (pa_cons (pv 1) pa_nil))) (pa_cons (pe_oeK O.k_Parted hr (by decide) (by rfl) (pk_cons (pv 1) (pk_cons (pv 0) pk_nil))) pa_nil)))) (pg_name (i := 2) sc_two_right_L.nd rfl (.inl rfl))
      (pss_cons (ps_if (PW.pt (pw_or (pt_cmpR (op_neD hu64) (pe_cal c_classes_L hr (by decide) (by rfl) (pa_cons (pv 2) pa_nil)) (pe_lc (own := [("_law_j", 3)]) rfl sc_two_right_L.nd (pi_range1 (by rfl) T.m_range (pa_cons pe_int pa_nil)) (blkOk_by (N := ["_law_one", "_law_other", "_law_e", "_law_j"]) (sc := defScope s_two_right_L) (by decide +kernel)) (fun _ _ _ _ _ => (pg_name (i := 3) sc_two_right_L.nd rfl (.inl rfl))) (fun _ _ _ _ _ => pts_nil) (fun _ _ _ _ _ => (pe_cmpR op_eq (pv 3) pe_int (nomark _)))) (nomark _)) (pw_or1 (pt_cmpR (op_neD hu64) (pe_cal c_families_L hr (by decide) (by rfl) (pa_cons (pv 2) pa_nil)) (pe_cal c_due_families_L hr (by decide) (by rfl) (pa_cons pe_int pa_nil)) (nomark _))))) (pss_one (ps_ret pe_bl)) pss_nil)
    (pss_cons (ps_expr (pe_cal c_grown_L hr (by decide) (by rfl) (pa_cons (pv 0) pa_nil)))
    (pss_cons (ps_expr (pe_cal c_grown_L hr (by decide) (by rfl) (pa_cons (pv 1) pa_nil)))
    (pss_one (ps_if (PW.pt (pw_or (pt_cmpR op_ne (pe_callB (call_repr_shq ga hr) (by rfl) T.m_repr (by decide +kernel) (pa_cons (pe_xv (pv 2)) pa_nil)) (pe_callB (call_repr_shq ga hr) (by rfl) T.m_repr (by decide +kernel) (pa_cons (pv 0) pa_nil)) (nomark _)) (pw_or1 (pt_cmpR op_ne (pe_callB (call_repr_shq ga hr) (by rfl) T.m_repr (by decide +kernel) (pa_cons (pe_xv (pv 2)) pa_nil)) (pe_callB (call_repr_shq ga hr) (by rfl) T.m_repr (by decide +kernel) (pa_cons (pv 1) pa_nil)) (nomark _))))) (pss_one (ps_ret pe_bl)) pss_nil))))))
    (pss_cons (ps_set (i := 2) sc_two_right_L.nd rfl (.inl rfl) (pe_oe0 O.p_Over hr (by decide) (by rfl)))
    (pss_one (ps_ret (pe_and (pe_cmpR (op_eqD hu64) (pe_cal c_classes_L hr (by decide) (by rfl) (pa_cons (pv 2) pa_nil)) (pe_lc (own := [("_law_j", 3)]) rfl sc_two_right_L.nd (pi_range1 (by rfl) T.m_range (pa_cons pe_int pa_nil)) (blkOk_by (N := ["_law_one", "_law_other", "_law_e", "_law_j"]) (sc := defScope s_two_right_L) (by decide +kernel)) (fun _ _ _ _ _ => (pg_name (i := 3) sc_two_right_L.nd rfl (.inl rfl))) (fun _ _ _ _ _ => pts_nil) (fun _ _ _ _ _ => (pe_cmpR op_eq (pv 3) pe_int (nomark _)))) (nomark _)) (pe_one (pe_cmpR (op_eqD hu64) (pe_cal c_families_L hr (by decide) (by rfl) (pa_cons (pv 2) pa_nil)) (pe_cal c_due_families_L hr (by decide) (by rfl) (pa_cons pe_int pa_nil)) (nomark _)))))))), ?_⟩)
  · obtain ⟨v1, v2, m, f1, f2, rfl, _⟩ := h
    rfl
  · obtain ⟨v1, v2, m, f1, f2, rfl, t1, t2, dj, hm, q⟩ := h
    have t1h : ∀ b ∈ f1, ∃ o, H b = some o := fun b hb => t1.ob hb
    have t2h : ∀ b ∈ f2, ∃ o, H b = some o := fun b hb => t2.ob hb
    walk_at "go"
    refine ⟨rfl, rfl, by decide, fun a1 na1 => ⟨a1, v1, v2, rfl, upd_same, fun d1 H1 hd1 ne1 k1 e11 e12 => ⟨rfl, ?_⟩⟩⟩
    have s1 := two_same na1 k1
    walk_at "go"
    refine ⟨rfl, rfl, by decide, fun a2 na2 => ⟨a2, v1, v2, rfl, upd_same, fun d2 H2 hd2 ne2 k2 e21 e22 => ⟨rfl, ?_⟩⟩⟩
    have s2 := two_same na2 k2
    have x1 : XV H2 a1 (A.cl 32) d1 [("at", v2), ("found", v1)] := XV.same ⟨e11, e12⟩ s2
    have x2 : XV H2 a2 (A.cl 32) d2 [("at", v2), ("found", v1)] := ⟨e21, e22⟩
    clear e11 e12 e21 e22 k1 k2 hd1 hd2 ne1 ne2
    walk_at "go"
    refine newLB fun l H3 nl gl s3 el => ?_
    walk_at "go"
    have s03 : Same H H3 := (s1.trans s2).trans s3
    have hx3 : ∀ y ∈ ([.ref a1, .ref a2] : List V), ∃ e dx, y = .ref e ∧ XV H3 e (A.cl 32) dx [("at", v2), ("found", v1)] := fun y hy => by
      simp only [List.mem_cons, List.not_mem_nil, or_false] at hy
      rcases hy with rfl | rfl
      · exact ⟨a1, d1, rfl, XV.same x1 s3⟩
      · exact ⟨a2, d2, rfl, XV.same x2 s3⟩
    have t1 := t1.same s03
    have t2 := t2.same s03
    have th : ∀ b ∈ f1 ++ f2, (∃ xs, H3 b = some (.lst xs)) ∨ ∃ kvs, H3 b = some (.dK kvs) := fun b hb => (List.mem_append.mp hb).elim (t1.there b) (t2.there b)
    have nS : l ∉ f1 ++ f2 := fun z => by
      have : ∃ o, (H2 : Hp) l = some o := by
        have z2 : ∃ o, H l = some o := by
          rcases List.mem_append.mp z with z | z
          · exact t1h _ z
          · exact t2h _ z
        obtain ⟨o, e⟩ := z2
        exact ⟨o, (s1.trans s2) _ _ e⟩
      obtain ⟨o, e⟩ := this
      rw [nl] at e
      exact nomatch e
    clear s1 s2 x1 x2
    have hxc := (T.own 32 (by decide)).xc
    have hxf := (T.own 32 (by decide)).xf
    refine ⟨l, rfl, ⟨_, sqL el⟩, for_list (K := K) (a := l) (xs := [.ref a1, .ref a2]) (fun i σ H' => (∃ x2, σ = [some v1, some v2, x2, none]) ∧ Fr (f1 ++ f2) H3 H' ∧ Thg H' (m + i) f1 v1 ∧ Thg H' (m + i) f2 v2)
      ⟨⟨_, rfl⟩, fun _ _ _ e => e, t1, t2⟩ (fun i σ H' _ ⟨_, fr, _⟩ => sqL (fr _ _ nS el)) ?_ ?_⟩
    · rintro i y σ G hi ⟨⟨x2, rfl⟩, fr, o1, o2⟩
      have hi2 : i < 2 := (List.getElem?_eq_some_iff.mp hi).1
      obtain ⟨e, dx, rfl, xv⟩ := hx3 y (List.mem_of_getElem? hi)
      have xv := XV.fr xv fr th
      walk_at "go"
      refine ⟨e, _, some dx, _, (32 == ·), rfl, XV.o xv, hxc, fun j hj => T.tab 32 j (by omega) hj, fun p1 H1 n1 s1 e1 => ?_⟩
      walk_at "go"
      refine lcR 34 (32 == ·) (by decide) (fun _ => rfl) (fun i G Q' hi sm kk => ?_) fun p2 H2 n2 s2 e2 => ?_
      · walk_at "go"
        have z := kk G (Same.refl G)
        rwa [show (32 == i) = decide (V.int (i : Int) = V.int ((32 : Nat) : Int)) from eqN] at z
      walk_at "go"
      refine r_neSame (dp_bls (s2 _ _ e1)) (dp_bls e2) (sh_bls _) ?_
      walk_at "go"
      refine ⟨e, _, some dx, _, famsN 2, rfl, XVo.same (XVo.same (XV.o xv) s1) s2, hxc, fun j hj => T.fams 32 j (by omega) hj, fun p3 H3 n3 s3 e3 => ?_⟩
      walk_at "go"
      refine ⟨26, rfl, fun p4 H4 n4 s4 e4 => ?_⟩
      walk_at "go"
      refine r_neSame (dp_bls (s4 _ _ e3)) (dp_bls e4) (sh_bls _) ?_
      walk_at "go"
      have s04 : Same G H4 := ((s1.trans s2).trans s3).trans s4
      clear s1 s2 s3 s4 e1 e2 e3 e4 n1 n2 n3 n4
      have o1 := o1.same s04
      have o2 := o2.same s04
      refine ⟨v1, f1, m + i, rfl, o1, by omega, fun H5 p1 g5 => ?_⟩
      have o2 := o2.fr g5 (fun b hb z => dj b z hb) o1.notup
      have xv5 : XV H5 e (A.cl 32) dx [("at", v2), ("found", v1)] := XV.fr (XV.same xv s04) g5 o1.there
      walk_at "go"
      refine ⟨v2, f2, m + i, rfl, o2, by omega, fun H6 p2 g6 => ?_⟩
      have p1 := p1.fr g6 dj o2.notup
      have xv6 : XV H6 e (A.cl 32) dx [("at", v2), ("found", v1)] := XV.fr xv5 g6 o2.there
      obtain ⟨z1, hz1⟩ := p1.shq (K := K) (by omega)
      obtain ⟨z2, hz2⟩ := p2.shq (K := K) (by omega)
      walk_at "go"
      refine ⟨_, rfl, e, A.cl 32, dx, _, v1, rfl, xv6, hxf, T.nf32, by rfl, ?_⟩
      walk_at "go"
      refine ⟨_, z1, rfl, hz1, ?_⟩
      walk_at "go"
      refine ⟨_, z1, rfl, hz1, ?_⟩
      walk_at "go"
      rw [decide_eq_true rfl]
      walk_at "go"
      refine ⟨_, rfl, e, A.cl 32, dx, _, v2, rfl, xv6, hxf, T.nf33, by rfl, ?_⟩
      walk_at "go"
      refine ⟨_, z2, rfl, hz2, ?_⟩
      walk_at "go"
      refine ⟨_, z2, rfl, hz2, ?_⟩
      walk_at "go"
      rw [decide_eq_true rfl]
      walk_at "go"
      exact ⟨⟨_, rfl⟩, ((Fr.post fr s04).trans (Fr.left g5)).trans (Fr.right g6), p1, p2⟩
    · rintro σ G ⟨⟨x2, rfl⟩, fr, o1, o2⟩
      walk_at "go"
      refine ⟨rfl, rfl, by decide, fun a na => ⟨a, rfl, upd_same, rfl, ?_⟩⟩
      have s0 := same_upd (o := exo a (A.cl 33) none) na
      have x0 : XVo (upd G a (exo a (A.cl 33) none)) a (A.cl 33) none [] := ⟨upd_same, rfl⟩
      generalize upd G a (exo a (A.cl 33) none) = G0 at s0 x0 ⊢
      walk_at "go"
      have hxc := (T.own 33 (by decide)).xc
      refine ⟨a, _, none, _, (33 == ·), rfl, x0, hxc, fun j hj => T.tab 33 j (by omega) hj, fun p1 H1 n1 s1 e1 => ?_⟩
      walk_at "go"
      refine lcR 34 (33 == ·) (by decide) (fun _ => rfl) (fun i G Q' hi sm kk => ?_) fun p2 H2 n2 s2 e2 => ?_
      · walk_at "go"
        have z := kk G (Same.refl G)
        rwa [show (33 == i) = decide (V.int (i : Int) = V.int ((33 : Nat) : Int)) from eqN] at z
      walk_at "go"
      refine r_eqSame (dp_bls (s2 _ _ e1)) (dp_bls e2) (sh_bls _) ?_
      walk_at "go"
      refine ⟨a, _, none, _, famsN 2, rfl, XVo.same (XVo.same x0 s1) s2, hxc, fun j hj => T.fams 33 j (by omega) hj, fun p3 H3 n3 s3 e3 => ?_⟩
      walk_at "go"
      refine ⟨26, rfl, fun p4 H4 n4 s4 e4 => ?_⟩
      walk_at "go"
      refine r_eqSame (dp_bls (s4 _ _ e3)) (dp_bls e4) (sh_bls _) ?_
      refine q _ (Fr.pre s03 (Fr.post fr ((((s0.trans s1).trans s2).trans s3).trans s4)))
end
end K82

namespace K82
open PySem PySem.Spec PyProof.Rows L2 Bk


def spLaw (K : PySem.W.Frag) : Sp := fun vs H Q _ => ∃ (a : Addr) (ns : List Int), vs = [.ref a] ∧ SqL K H a (ns.map V.int) ∧ ns.length ≤ 63 ∧ ∀ H', Q (.bl true) H'
def spBaseL (A : Ad) : Sp := fun vs H Q _ => ∃ (k : Nat) (z : V), vs = [.int k, z] ∧ k < 3 ∧ ∀ a H', H a = none → Same H H' → XVo H' a (A.fm k) none [] → Q (.ref a) H'
section
variable {P : Program} {w : World} {K : PySem.W.Frag} {mg : Str → Option Value} {base : Heap} {A : Ad}
theorem ok_base {f : Addr} {fd : FuncData} (F : Fun K "_law_base" "_law_base" s_base_L f fd) (T : Txt K mg A) (O : Os P w K mg base A) : FnOk P w K mg base CX0 3 f fd ["_law_way", "_law_words"] (spBaseL A) := by
  refine F.ok sc_base_L (fun vs H Q E h => ?_) (fun cdv A' outer s H vs Q E hr h => ⟨_, (pss_cons (ps_if (pt_cmpR op_eq (pv 0) pe_int (nomark _)) (pss_one (ps_ret (pe_oeP O.p_GuestError hr (by decide) (by rfl) (pa_cons (pv 1) pa_nil)))) pss_nil)
    (pss_one (ps_ret (pe_ifExp (pt_cmpR op_eq (pv 0) pe_int (nomark _)) (pe_oeP O.p_Missing hr (by decide) (by rfl) (pa_cons (pv 1) pa_nil)) (pe_oeP O.p_Barred hr (by decide) (by rfl) (pa_cons (pv 1) pa_nil)))))), ?_⟩)
  · obtain ⟨k, z, rfl, _⟩ := h
    rfl
  · obtain ⟨k, z, rfl, hk, q⟩ := h
    walk_at "go"
    refine iteC (fun h0 => ?_) (fun h0 => ?_)
    · obtain rfl : k = 0 := by injection h0 with e; omega
      walk_at "go"
      refine ⟨rfl, rfl, by decide, fun a na => ⟨a, _, z, rfl, (T.fam 0 (by decide)).ox, upd_same, rfl, q a _ na (same_upd na) ⟨upd_same, rfl⟩⟩⟩
    · have h0 : k ≠ 0 := fun z => h0 (by rw [z]; rfl)
      walk_at "go"
      refine iteC (fun h1 => ?_) (fun h1 => ?_)
      · obtain rfl : k = 1 := by injection h1 with e; omega
        walk_at "go"
        refine ⟨rfl, rfl, by decide, fun a na => ⟨a, _, z, rfl, (T.fam 1 (by decide)).ox, upd_same, rfl, q a _ na (same_upd na) ⟨upd_same, rfl⟩⟩⟩
      · have h1 : k ≠ 1 := fun z => h1 (by rw [z]; rfl)
        obtain rfl : k = 2 := by omega
        walk_at "go"
        refine ⟨rfl, rfl, by decide, fun a na => ⟨a, _, z, rfl, (T.fam 2 (by decide)).ox, upd_same, rfl, q a _ na (same_upd na) ⟨upd_same, rfl⟩⟩⟩
theorem box_fr {p : Addr} {n : Nat} {S : List Addr} {H H' : Hp} (h : Box p n H) (f : Fr S H H') (d : p ∉ S) : Box p n H' := by
  obtain ⟨x, y, z, e, r⟩ := h
  exact ⟨x, y, z, f _ _ d e, r⟩
theorem box_new {p : Addr} {n : Nat} {S : List Addr} {H : Hp} (h : Box p n H) (f : ∀ b ∈ S, H b = none) : p ∉ S := fun z => by
  obtain ⟨_, _, _, e, _⟩ := h
  rw [f p z] at e
  exact nomatch e
theorem but_fr {p : Addr} {S : List Addr} {H0 H H1 H2 : Hp} (b : But p H0 H) (n : ∀ c ∈ S, H c = none) (b1 : But p H H1) (f : Fr S H1 H2) : But p H0 H2 := fun c o ne e => by
  have e1 := b c o ne e
  refine f c o (fun z => ?_) (b1 c o ne e1)
  rw [n c z] at e1
  exact nomatch e1
theorem ok_law {f : Addr} {fd : FuncData} (F : Fun K "law" "law" s_law f fd) (T : Txt K mg A) (c_cell_L : CalD P w K mg base CX0 1 "_law_cell" (spCell K) []) (c_box_L : CalD P w K mg base CX0 1 "_law_box" spBox []) (c_thing_L : CalD P w K mg base CX0 2 "_law_thing" spThing [])
    (c_by_place_L : CalD P w K mg base CX0 5 "_law_by_place" (spBy A) []) (c_by_name_L : CalD P w K mg base CX0 5 "_law_by_name" (spBy A) []) (c_right_L : CalG P w K mg base CX0 2 "_law_right" (spRight A)) (c_two_right_L : CalG P w K mg base CX0 4 "_law_two_right" spTwo)
    (c_base_L : CalD P w K mg base CX0 3 "_law_base" (spBaseL A) []) (c_classes_L : CalD P w K mg base CX0 1 "_law_classes" (spClasses K A) []) (c_families_L : CalD P w K mg base CX0 1 "_law_families" (spFams K A) [])
    (c_due_families_L : CalD P w K mg base CX0 1 "_law_due_families" spDue []) : FnG P w K mg base CX0 6 f fd ["_law_script"] (spLaw K) := by
  refine fun_okG F sc_law (fun vs H Q E h => ?_) (fun cdv A' outer s H vs Q E ga hr h => have hu64 := hr.units; ⟨_, (pss_cons (ps_for PassesOwn.never rfl (pi_range1 (by rfl) T.m_range (pa_cons (pe_callB (call_max2 rfl) (by rfl) T.m_max (by decide +kernel) (pa_cons pe_int (pa_cons (pe_callB (call_min2 rfl) (by rfl) T.m_min (by decide +kernel) (pa_cons pe_int (pa_cons (pe_callB call_len_seq (by rfl) T.m_len (by decide +kernel) (pa_cons (pv 0) pa_nil)) pa_nil))) pa_nil))) pa_nil)) (pg_name (i := 1) sc_law.nd rfl (.inl rfl))
      (pss_cons (ps_set (i := 2) sc_law.nd rfl (.inl rfl) (pe_cal c_box_L hr (by decide) (by rfl) (pa_cons (pe_cal c_cell_L hr (by decide) (by rfl) (pa_cons (pv 0) (pa_cons (pv 1) pa_nil))) pa_nil)))
    (pss_cons (ps_for PassesOwn.never rfl (pi_range1 (by rfl) T.m_range (pa_cons pe_int pa_nil)) (pg_name (i := 3) sc_law.nd rfl (.inl rfl))
      (pss_cons (ps_set (i := 4) sc_law.nd rfl (.inl rfl) (pe_cal c_thing_L hr (by decide) (by rfl) (pa_cons (pv 2) pa_nil)))
    (pss_cons (ps_if (pt_not (pt_val (pe_calG c_right_L ga hr (by decide) (by rfl) (pa_cons (pe_cal c_by_place_L hr (by decide) (by rfl) (pa_cons (pv 3) (pa_cons (pv 4) pa_nil))) (pa_cons (pv 3) (pa_cons (pv 4) pa_nil)))))) (pss_one (ps_ret pe_bl)) pss_nil)
    (pss_one (ps_if (pt_not (pt_val (pe_calG c_right_L ga hr (by decide) (by rfl) (pa_cons (pe_cal c_by_name_L hr (by decide) (by rfl) (pa_cons (pv 3) (pa_cons (pv 4) pa_nil))) (pa_cons (pv 3) (pa_cons (pv 4) pa_nil)))))) (pss_one (ps_ret pe_bl)) pss_nil)))))
    (pss_cons (ps_if (pt_not (pt_val (pe_calG c_two_right_L ga hr (by decide) (by rfl) (pa_cons (pe_cal c_thing_L hr (by decide) (by rfl) (pa_cons (pv 2) pa_nil)) (pa_cons (pe_cal c_thing_L hr (by decide) (by rfl) (pa_cons (pv 2) pa_nil)) pa_nil))))) (pss_one (ps_ret pe_bl)) pss_nil)
    (pss_one (ps_for PassesOwn.never rfl (pi_range1 (by rfl) T.m_range (pa_cons pe_int pa_nil)) (pg_name (i := 5) sc_law.nd rfl (.inl rfl))
      (pss_cons (ps_set (i := 6) sc_law.nd rfl (.inl rfl) (pe_cal c_base_L hr (by decide) (by rfl) (pa_cons (pv 5) (pa_cons pe_str pa_nil))))
    (pss_one (ps_if (PW.pt (pw_or (pt_cmpR op_in_seq pe_bl (pe_cal c_classes_L hr (by decide) (by rfl) (pa_cons (pv 6) pa_nil)) (by rfl)) (pw_or1 (pt_cmpR (op_neD hu64) (pe_cal c_families_L hr (by decide) (by rfl) (pa_cons (pv 6) pa_nil)) (pe_cal c_due_families_L hr (by decide) (by rfl) (pa_cons (pe_ix ix_list (pe_lstB (pa_cons pe_int (pa_cons pe_int (pa_cons pe_int pa_nil)))) (pv 5) (fun _ _ => rfl)) pa_nil)) (nomark _))))) (pss_one (ps_ret pe_bl)) pss_nil)))))))))
    (pss_one (ps_ret pe_bl))), ?_⟩)
  · obtain ⟨a, ns, rfl, _⟩ := h
    rfl
  · obtain ⟨a, ns, rfl, hS, hl, q⟩ := h
    walk_at "go"
    refine ⟨a, _, rfl, .inl hS, ?_⟩
    walk_at "go"
    refine ⟨_, _, rfl, ?_⟩
    walk_at "go"
    refine ⟨_, _, rfl, ?_⟩
    walk_at "go"
    have hlm : ((ns.map V.int).length : Int) = ns.length := by rw [List.length_map]
    rw [hlm]
    refine ⟨_, rfl, by split <;> split <;> omega, by split <;> split <;> omega, ?_⟩
    generalize hN : (if (if (ns.length : Int) < 8 then (ns.length : Int) else 8) > 2 then (if (ns.length : Int) < 8 then (ns.length : Int) else 8) else 2) = N
    have hN2 : N ≤ 8 := by rw [← hN]; split <;> split <;> omega
    refine for_range (fun i σ H' => Same H H' ∧ ∃ x1 x2 x3 x4 x5 x6, σ = [some (.ref a), x1, x2, x3, x4, x5, x6]) ⟨Same.refl _, none, none, none, none, none, none, rfl⟩ ?_ ?_
    · rintro i σ H0 hi ⟨sm0, x1, x2, x3, x4, x5, x6, rfl⟩
      rw [Int.zero_add]
      walk_at "go"
      refine ⟨a, ns, i, rfl, sm0.seq hS, by omega, fun c => ?_⟩
      walk_at "go"
      refine ⟨c, rfl, fun p H1 np s1 hB1 => ?_⟩
      walk_at "go"
      refine ⟨32, rfl, by decide, by decide, ?_⟩
      refine for_range (fun j σ H' => (∃ x3 x4, σ = [some (.ref a), some (.int i), some (.ref p), x3, x4, x5, x6]) ∧ Box p (3 * j) H' ∧ But p H1 H') ⟨⟨x3, x4, rfl⟩, hB1, But.refl⟩ ?_ ?_
      · rintro j σ H2 hj ⟨⟨x3, x4, rfl⟩, hB2, b2⟩
        have hj32 : j < 32 := by omega
        rw [Int.zero_add]
        walk_at "go"
        refine ⟨p, 3 * j, rfl, hB2, by omega, fun v fp H3 t fr hB3 b3 => ?_⟩
        walk_at "go"
        refine ⟨j, v, rfl, hj32, fun e dx H4 ne s4 xv => ?_⟩
        walk_at "go"
        refine ⟨e, dx, j, 2, v, fp, rfl, hj32, xv, t.same s4, by omega, fun H5 t5 f5 => ?_⟩
        walk_at "go"
        refine ⟨j, v, rfl, hj32, fun e' dx' H6 ne' s6 xv' => ?_⟩
        walk_at "go"
        refine ⟨e', dx', j, 3, v, fp, rfl, hj32, xv', t5.same s6, by omega, fun H7 t7 f7 => ?_⟩
        walk_at "go"
        have g := (Fr.pre s4 f5).trans (Fr.pre s6 f7)
        exact ⟨⟨_, _, rfl⟩, box_fr (n := 3 * j + 3) hB3 g (box_new hB2 fr), but_fr b2 fr b3 g⟩
      · rintro σ H2 ⟨⟨x3, x4, rfl⟩, hB2, b2⟩
        walk_at "go"
        refine ⟨p, _, rfl, hB2, by decide, fun v1 f1 H3 t1 fr1 hB3 b3 => ?_⟩
        walk_at "go"
        refine ⟨p, _, rfl, hB3, by decide, fun v2 f2 H4 t2 fr2 hB4 b4 => ?_⟩
        walk_at "go"
        have np1 : p ∉ f1 := box_new hB2 fr1
        have np2 : p ∉ f2 := box_new hB3 fr2
        have t14 : Thg H4 2 f1 v1 := by
          obtain ⟨_, _, _, eb, _⟩ := hB3
          exact t1.but eb np1 b4
        refine ⟨v1, v2, 2, f1, f2, rfl, t14, t2, fun b hb hc => ?_, by decide, fun H5 g5 => ?_⟩
        · obtain ⟨o, eo⟩ := t1.ob hb
          rw [fr2 b hc] at eo
          exact nomatch eo
        have b5 : But p H1 H5 := but_fr b2 (S := f1 ++ f2) (fun c hc => (List.mem_append.mp hc).elim (fr1 c) fun z => but_none b3 (fun y => np2 (by rw [← y]; exact z)) (fr2 c z)) (b3.trans b4) g5
        walk_at "go"
        refine ⟨3, rfl, by decide, by decide, ?_⟩
        refine for_range (fun k σ H' => (∃ x5 x6, σ = [some (.ref a), some (.int i), some (.ref p), x3, x4, x5, x6]) ∧ Same H5 H') ⟨⟨x5, x6, rfl⟩, Same.refl _⟩ ?_ ?_
        · rintro k σ H6 hk ⟨⟨x5, x6, rfl⟩, s6⟩
          have hk3 : k < 3 := by omega
          rw [Int.zero_add]
          walk_at "go"
          refine ⟨k, _, rfl, hk3, fun e H7 ne s7 xv => ?_⟩
          walk_at "go"
          have hxc := (T.fam k hk3).xc
          refine ⟨e, _, none, _, fun _ => false, rfl, xv, hxc, fun j hj => T.tabF k j hk3 hj, fun p1 H8 n1 s8 e8 => ?_⟩
          walk_at "go"
          refine ⟨p1, _, rfl, .inl (sqL e8), rfl, rfl, ?_⟩
          walk_at "go"
          rw [if_neg (by decide +kernel)]
          walk_at "go"
          refine ⟨e, _, none, _, famsN k, rfl, XVo.same xv s8, hxc, fun j hj => T.famsF k j hk3 hj, fun p2 H9 n2 s9 e9 => ?_⟩
          walk_at "go"
          refine newLB fun p3 H10 n3 g3 s10 e10 => ?_
          walk_at "go"
          have e9' := s10 _ _ e9
          have s610 : Same H6 H10 := ((s7.trans s8).trans s9).trans s10
          have hk' : k = 0 ∨ k = 1 ∨ k = 2 := by omega
          rcases hk' with rfl | rfl | rfl
          · refine r_ixL (sqL e10) (v := .int 0) rfl ?_
            walk_at "go"
            refine ⟨0, rfl, fun p4 H11 n4 s11 e11 => ?_⟩
            walk_at "go"
            refine r_neSame (dp_bls (s11 _ _ e9')) (dp_bls e11) (sh_bls _) ?_
            walk_at "go"
            exact ⟨⟨_, _, rfl⟩, (s6.trans s610).trans s11⟩
          · refine r_ixL (sqL e10) (v := .int 22) rfl ?_
            walk_at "go"
            refine ⟨22, rfl, fun p4 H11 n4 s11 e11 => ?_⟩
            walk_at "go"
            refine r_neSame (dp_bls (s11 _ _ e9')) (dp_bls e11) (sh_bls _) ?_
            walk_at "go"
            exact ⟨⟨_, _, rfl⟩, (s6.trans s610).trans s11⟩
          · refine r_ixL (sqL e10) (v := .int 26) rfl ?_
            walk_at "go"
            refine ⟨26, rfl, fun p4 H11 n4 s11 e11 => ?_⟩
            walk_at "go"
            refine r_neSame (dp_bls (s11 _ _ e9')) (dp_bls e11) (sh_bls _) ?_
            walk_at "go"
            exact ⟨⟨_, _, rfl⟩, (s6.trans s610).trans s11⟩
        · rintro σ H6 ⟨⟨x5, x6, rfl⟩, s6⟩
          exact ⟨sm0.trans (butSame s1 np (b5.same s6)), _, _, _, _, _, _, rfl⟩
    · rintro σ H0 ⟨sm0, x1, x2, x3, x4, x5, x6, rfl⟩
      walk_at "go"
      exact q H0
end
end K82

namespace K82
open PySem PySem.Spec PyProof.Rows L2 Bk


section
variable {P : Program} {w : World} {K : PySem.W.Frag} {mg : Str → Option Value} {base : Heap} {A : Ad}
theorem ok_cell {f : Addr} {fd : FuncData} (F : Fun K "_law_cell" "_law_cell" s_cell_L f fd) (T : Txt K mg A) : FnOk P w K mg base CX0 1 f fd ["_law_script", "_law_k"] (spCell K) := by
  refine F.ok sc_cell_L (fun vs H Q E h => ?_) (fun cdv A' outer s H vs Q E hr h => ⟨_, (pss_cons (ps_if (pt_cmpR op_lt (pv 1) (pe_callB call_len_seq (by rfl) T.m_len (by decide +kernel) (pa_cons (pv 0) pa_nil)) (nomark _)) (pss_one (ps_ret (pe_ix ix_list (pv 0) (pv 1) (fun _ _ => rfl)))) pss_nil)
    (pss_one (ps_ret (pe_op op_add (pe_op op_mulW pe_int (pv 1)) pe_int)))), ?_⟩)
  · obtain ⟨a, ns, k, rfl, _⟩ := h
    rfl
  · obtain ⟨a, ns, k, rfl, hS, hk, q⟩ := h
    walk_at "go"
    refine ⟨a, _, rfl, .inl hS, ?_⟩
    walk_at "go"
    refine ite2 (fun e => ?_) (fun e => ?_)
    · walk_at "go"
      have hl : k < ns.length := by
        have z := of_decide_eq_true e
        rw [List.length_map] at z
        omega
      exact r_ixL hS (at_map hl) (q _)
    · walk_at "go"
      refine r_I (cmul (by decide) (by decide) (by omega) (by omega)) ?_
      walk_at "go"
      exact q _
theorem ok_box {f : Addr} {fd : FuncData} (F : Fun K "_law_box" "_law_box" s_box_L f fd) (T : Txt K mg A) : FnOk P w K mg base CX0 1 f fd ["_law_cell_here"] spBox := by
  refine F.ok sc_box_L (fun vs H Q E h => ?_) (fun cdv A' outer s H vs Q E hr h => ⟨_, (pss_one (ps_ret (pe_lstB (pa_cons (pe_callB (call_max2 rfl) (by rfl) T.m_max (by decide +kernel) (pa_cons pe_int (pa_cons (pe_op op_sub (pv 0) (pe_op op_pow pe_int pe_int)) pa_nil))) (pa_cons (pe_op op_mod (pv 0) pe_int) (pa_cons pe_int pa_nil)))))), ?_⟩)
  · obtain ⟨c, rfl, _⟩ := h
    rfl
  · obtain ⟨c, rfl, q⟩ := h
    walk_at "go"
    refine r_I ⟨by decide, by decide, by decide⟩ ?_
    walk_at "go"
    refine ⟨_, _, rfl, ?_⟩
    walk_at "go"
    refine r_I (by decide) ?_
    walk_at "go"
    refine newLB fun p H' np ns sm e => q p H' np sm ⟨_, _, _, e, ?_, ?_, ?_, ?_, ?_⟩ <;> first | omega | (split <;> omega)
theorem ok_take {f : Addr} {fd : FuncData} (F : Fun K "_law_take" "_law_take" s_take_L f fd) (T : Txt K mg A) : FnOk P w K mg base CX0 1 f fd ["_law_box_here", "_law_size"] spTake := by
  refine F.ok sc_take_L (fun vs H Q E h => ?_) (fun cdv A' outer s H vs Q E hr h => ⟨_, (pss_cons (ps_if (pt_cmpR op_gt (pe_ix ix_list (pv 0) pe_int (fun _ _ => rfl)) pe_int (nomark _)) (pss_cons (ps_set (i := 2) sc_take_L.nd rfl (.inl rfl) (pe_op op_mod (pe_ix ix_list (pv 0) pe_int (fun _ _ => rfl)) (pv 1)))
    (pss_cons (ps_asg (pe_op op_fdivW (pe_ix ix_list (pv 0) pe_int (fun _ _ => rfl)) (pv 1)) (pg_sub (pv 0) pe_int set_list))
    (pss_one (ps_ret (pv 2))))) pss_nil)
    (pss_cons (ps_asg (pe_op op_add (pe_ix ix_list (pv 0) pe_int (fun _ _ => rfl)) pe_int) (pg_sub (pv 0) pe_int set_list))
    (pss_cons (ps_set (i := 3) sc_take_L.nd rfl (.inl rfl) (pe_op op_mod (pe_op op_pow (pe_op op_add (pe_op op_add (pe_ix ix_list (pv 0) pe_int (fun _ _ => rfl)) (pe_op op_mulW pe_int (pe_ix ix_list (pv 0) pe_int (fun _ _ => rfl)))) pe_int) pe_int) pe_int))
    (pss_cons (ps_set (i := 4) sc_take_L.nd rfl (.inl rfl) (pe_op op_mod (pe_op op_pow (pe_op op_add (pe_op op_add (pe_op op_fdivW (pv 3) pe_int) (pe_op op_mulW pe_int (pe_ix ix_list (pv 0) pe_int (fun _ _ => rfl)))) pe_int) pe_int) pe_int))
    (pss_one (ps_ret (pe_op op_mod (pe_op op_add (pe_op op_fdivW (pv 3) pe_int) (pe_op op_mulW pe_int (pe_op op_fdivW (pv 4) pe_int))) (pv 1)))))))), ?_⟩)
  · obtain ⟨a, n, size, rfl, _⟩ := h
    rfl
  · obtain ⟨a, n, size, rfl, ⟨x, y, z, e, hx, hy, hy2, hz, hz2⟩, hn, h0, h1, q⟩ := h
    have i0 : SqL K H a [.int x, .int y, .int z] := sqL e
    walk_at "go"
    refine r_ixL i0 (v := .int x) rfl ?_
    walk_at "go"
    refine ite2 (fun hp => ?_) (fun hp => ?_)
    · walk_at "go"
      refine r_ixL i0 (v := .int x) rfl ?_
      walk_at "go"
      refine r_I h0 ?_
      walk_at "go"
      refine r_ixL i0 (v := .int x) rfl ?_
      walk_at "go"
      refine r_I (cdiv h0 h1) ?_
      walk_at "go"
      refine ⟨a, _, 0, 0, rfl, rfl, e, rfl, ?_⟩
      walk_at "go"
      exact q _ _ (Int.emod_nonneg _ (by omega)) (Int.emod_lt_of_pos _ h0) ⟨x / size, y, z, upd_same, Int.ediv_nonneg hx (by omega), hy, hy2, hz, by omega⟩ But.upd
    · walk_at "go"
      refine r_ixL i0 (v := .int z) rfl ?_
      walk_at "go"
      refine ⟨a, _, 2, 2, rfl, rfl, e, rfl, ?_⟩
      have i1 : SqL K (upd H a (.lst [.int x, .int y, .int (z + 1)])) a [.int x, .int y, .int (z + 1)] := sqL upd_same
      walk_at "go"
      refine r_ixL i1 (v := .int y) rfl ?_
      walk_at "go"
      refine r_ixL i1 (v := .int (z + 1)) rfl ?_
      refine r_I (cmul (by decide) (by decide) (by omega) (by omega)) ?_
      walk_at "go"
      have g1 : (y + 7919 * (z + 1) + 29).natAbs < 2 ^ 64 := by omega
      refine r_I ⟨by decide, by decide, g1⟩ ?_
      walk_at "go"
      refine r_I (by decide) ?_
      walk_at "go"
      generalize hone : (y + 7919 * (z + 1) + 29) ^ (Int.toNat 5) % 2147483647 = one
      have o1 : 0 ≤ one := by rw [← hone]; exact Int.emod_nonneg _ (by decide)
      have o2 : one < 2147483647 := by rw [← hone]; exact Int.emod_lt_of_pos _ (by decide)
      refine r_I (cdiv (by decide) (by decide)) ?_
      walk_at "go"
      refine r_ixL i1 (v := .int (z + 1)) rfl ?_
      refine r_I (cmul (by decide) (by decide) (by omega) (by omega)) ?_
      walk_at "go"
      have g2 : (one / 8 + 104729 * (z + 1) + 11).natAbs < 2 ^ 64 := by omega
      refine r_I ⟨by decide, by decide, g2⟩ ?_
      walk_at "go"
      refine r_I (by decide) ?_
      walk_at "go"
      generalize htwo : (one / 8 + 104729 * (z + 1) + 11) ^ (Int.toNat 3) % 2147483629 = two
      have t1 : 0 ≤ two := by rw [← htwo]; exact Int.emod_nonneg _ (by decide)
      have t2 : two < 2147483629 := by rw [← htwo]; exact Int.emod_lt_of_pos _ (by decide)
      refine r_I (cdiv (by decide) (by decide)) ?_
      walk_at "go"
      refine r_I (cdiv (by decide) (by decide)) ?_
      refine r_I (cmul (by decide) (by decide) (by omega) (by omega)) ?_
      walk_at "go"
      refine r_I h0 ?_
      exact q _ _ (Int.emod_nonneg _ (by omega)) (Int.emod_lt_of_pos _ h0) ⟨x, y, z + 1, upd_same, hx, hy, hy2, by omega, by omega⟩ But.upd

end
def mkAd (c i m f : List Addr) : Ad := ⟨fun k => c.getD k 0, fun k => i.getD k 0, fun k => m.getD k 0, fun k => f.getD k 0⟩
def XL (K : PySem.W.Frag) (C : Addr) (bm : List Value) (new : String) : Prop := ∃ nm q N bs sn sub ab col dd k0 k1 k2 k3 k5, K.lookup C = some (excClassObj nm q C N bs bm true sn sub ab col dd k0 k1 k2 k3 k5 new)
def XLT (K : PySem.W.Frag) (b : Bs) (C : Addr) : Prop := ∃ nm q N bs bm sn sub ab col dd k0 k1 k2 k3 k5, K.lookup C = some (excClassObj nm q C N bs bm true sn sub ab col dd k0 k1 k2 k3 k5 b.new) ∧ Tail b bm
theorem XL.own {K : PySem.W.Frag} {b : Bs} {C G : Addr} (h : XL K C (.ref G :: b.tl) b.new) : XLT K b C := by
  obtain ⟨nm, q, N, bs, sn, sub, ab, col, dd, k0, k1, k2, k3, k5, e⟩ := h
  exact ⟨nm, q, N, bs, _, sn, sub, ab, col, dd, k0, k1, k2, k3, k5, e, .own _ .here⟩
theorem XL.fam {K : PySem.W.Frag} {b : Bs} {C : Addr} (h : XL K C b.tl b.new) : XLT K b C := by
  obtain ⟨nm, q, N, bs, sn, sub, ab, col, dd, k0, k1, k2, k3, k5, e⟩ := h
  exact ⟨nm, q, N, bs, _, sn, sub, ab, col, dd, k0, k1, k2, k3, k5, e, .here⟩
theorem of_map {α : Type} {n : Nat} {f g : Nat → α} (h : (List.range n).map f = (List.range n).map g) {k : Nat} (hk : k < n) : f k = g k := List.map_inj_left.mp h k (List.mem_range.mpr hk)
structure OwnF (K : PySem.W.Frag) (cl fi : Nat → Addr) (n : Nat) : Prop where
  sa : (List.range n).map (fun k => PySem.W.findIn K (.ref (cl k)) "__setattr__") = (List.range n).map (fun _ => some (some (.builtin "object.__setattr__")))
  ex : (List.range n).map (fun k => PySem.W.subIn K (.ref (cl k)) (.type "BaseException")) = (List.range n).map (fun _ => some true)
  ty : (List.range n).map (fun k => PySem.W.typeIn K (.ref (cl k))) = (List.range n).map (fun _ => some (.type "type"))
  kp : (List.range n).map (fun k => PySem.W.keepIn K (.ref (cl k))) = (List.range n).map (fun _ => true)
  hg : (List.range n).map (fun k => PySem.W.findIn K (.ref (cl k)) "__getattribute__") = (List.range n).map (fun _ => some (some (.builtin "BaseException.__getattribute__")))
  hk : (List.range n).map (fun k => PySem.W.findIn K (.ref (cl k)) "__getattr__") = (List.range n).map (fun _ => some none)
  hd : (List.range n).map (fun k => PySem.W.hasDictIn K (cl k)) = (List.range n).map (fun _ => true)
  ha : (List.range n).map (fun k => PySem.W.findIn K (.ref (cl k)) "__class__") = (List.range n).map (fun _ => some (some (.builtin "object.__class__")))
  hm : (List.range n).map (fun k => PySem.W.mroIn K (cl k) (.type "object")) = (List.range n).map (fun _ => some true)
  tf : (List.range n).map (fun k => PySem.W.typeIn K (.ref (fi k))) = (List.range n).map (fun _ => some (.type "function"))
  i : (List.range n).map (fun k => PySem.W.findIn K (.ref (cl k)) "__init__") = (List.range n).map (fun k => some (some (.ref (fi k))))
theorem OwnF.own {K : PySem.W.Frag} {cl fi : Nat → Addr} {n : Nat} {b : Nat → Bs} (h : OwnF K cl fi n) (x : ∀ k, k < n → XLT K (b k) (cl k)) (hn : PySem.W.specialIn K (.builtin "object.__class__") "__get__" = some (some (.builtin "getset_descriptor.__get__"))) (htk : PySem.W.takesIn K (.builtin "object.__class__") = some true) :
    ∀ k, k < n → Own1 K (b k) (cl k) (fi k) := fun k hk =>
  { ox := ⟨x k hk, of_map h.sa hk, of_map h.ex hk, of_map h.ty hk, of_map h.kp hk⟩, i := of_map h.i hk, t := of_map h.tf hk, xf := ⟨of_map h.hg hk, of_map h.hk hk, of_map h.ex hk, of_map h.hd hk⟩,
    xc := ⟨of_map h.hg hk, of_map h.hk hk, of_map h.ex hk, of_map h.hd hk, of_map h.ha hk, hn, htk, of_map h.hm hk⟩ }
structure TabF (K : PySem.W.Frag) (A : Ad) : Prop where
  nf : (List.range 32).map (fun k => PySem.W.findIn K (.ref (A.cl k)) (fldN k)) = (List.range 32).map (fun _ => some none)
  tab : (List.range 34).map (fun i => (List.range 34).map fun j => PySem.W.kitOne K (.ref (A.cl i)) (.ref (A.cl j))) = (List.range 34).map (fun i => (List.range 34).map fun j => some (i == j))
  tabF : (List.range 3).map (fun i => (List.range 34).map fun j => PySem.W.kitOne K (.ref (A.fm i)) (.ref (A.cl j))) = (List.range 3).map (fun _ => (List.range 34).map fun _ => some false)
  fams : (List.range 34).map (fun i => (List.range 6).map fun j => PySem.W.kitOne K (.ref (A.cl i)) (famT A j)) = (List.range 34).map (fun i => (List.range 6).map fun j => some (famsN (famN i) j))
  famsF : (List.range 3).map (fun i => (List.range 6).map fun j => PySem.W.kitOne K (.ref (A.fm i)) (famT A j)) = (List.range 3).map (fun i => (List.range 6).map fun j => some (famsN i j))
section
variable {P : Program} {w : World} {K : PySem.W.Frag} {mg : Str → Option Value} {base : Heap} {A : Ad}
theorem mk_p {k n : Nat} {b : Bs} {C f : Addr} {fd : FuncData} {ps : List Str} {x : Str} {sp : Sp} (O : Own1 K b C f) (F : FnOk P w K mg base CX0 k f fd ps sp) (hb : Binds K fd ps []) (l : ps.length = n + 1) (g : mg x = some (.ref C)) : CalO P w K mg base k n [] C x sp (fun us _ => us) :=
  ⟨b, f, fd, ps, _, O.ox, O.i, O.t, F, kbn_of hb l, g⟩
theorem mk_k {k : Nat} {b : Bs} {C f : Addr} {fd : FuncData} {ps : List Str} {x : Str} {sp : Sp} {ks : List Str} {g : List Value → List Value → List Value} {gV : List V → List V → List V} (O : Own1 K b C f) (F : FnOk P w K mg base CX0 k f fd ps sp) (hb : KBn K fd ps 1 ks g gV) (e : mg x = some (.ref C)) : CalO P w K mg base k 0 ks C x sp gV :=
  ⟨b, f, fd, ps, _, O.ox, O.i, O.t, F, hb, e⟩
theorem mk_os {fdF0 fdF1 fdF2 fd0 fd1 fd2 fd3 fd4 fd5 fd6 fd7 fd8 fd9 fd10 fd11 fd12 fd13 fd14 fd15 fd16 fd17 fd18 fd19 fd20 fd21 fd22 fd23 fd24 fd25 fd26 fd27 fd28 fd29 fd30 fd31 fd32 fd33 : FuncData} (T : Txt K mg A)
    (F_GuestError : Fun K "__init__" "GuestError.__init__" s_GuestError_init (A.ff 0) fdF0)
    (b_GuestError : Binds K fdF0 ["self", "text"] [])
    (k_GuestError : PySem.W.keepIn K (.ref (A.ff 0)) = true)
    (F_Missing : Fun K "__init__" "Missing.__init__" s_Missing_init (A.ff 1) fdF1)
    (b_Missing : Binds K fdF1 ["self", "text"] [])
    (k_Missing : PySem.W.keepIn K (.ref (A.ff 1)) = true)
    (F_Barred : Fun K "__init__" "Barred.__init__" s_Barred_init (A.ff 2) fdF2)
    (b_Barred : Binds K fdF2 ["self", "text"] [])
    (k_Barred : PySem.W.keepIn K (.ref (A.ff 2)) = true)
    (F_NoNumber : Fun K "__init__" "NoNumber.__init__" s_NoNumber_init (A.fi 0) fd0)
    (b_NoNumber : Binds K fd0 ["self", "found"] [])
    (F_NoName : Fun K "__init__" "NoName.__init__" s_NoName_init (A.fi 1) fd1)
    (b_NoName : Binds K fd1 ["self", "found"] [])
    (F_NoWord : Fun K "__init__" "NoWord.__init__" s_NoWord_init (A.fi 2) fd2)
    (b_NoWord : Binds K fd2 ["self", "found"] [])
    (F_NoOp : Fun K "__init__" "NoOp.__init__" s_NoOp_init (A.fi 3) fd3)
    (b_NoOp : Binds K fd3 ["self", "found"] [])
    (F_NoTruth : Fun K "__init__" "NoTruth.__init__" s_NoTruth_init (A.fi 4) fd4)
    (b_NoTruth : Binds K fd4 ["self", "found"] [])
    (F_NoBits : Fun K "__init__" "NoBits.__init__" s_NoBits_init (A.fi 5) fd5)
    (b_NoBits : Binds K fd5 ["self", "found"] [])
    (F_Nought : Fun K "__init__" "Nought.__init__" s_Nought_init (A.fi 6) fd6)
    (b_Nought : Binds K fd6 ["self", "found"] [])
    (F_NoImage : Fun K "__init__" "NoImage.__init__" s_NoImage_init (A.fi 7) fd7)
    (b_NoImage : Binds K fd7 ["self", "found"] [])
    (F_NoText : Fun K "__init__" "NoText.__init__" s_NoText_init (A.fi 8) fd8)
    (b_NoText : Binds K fd8 ["self", "found"] [])
    (F_NoRow : Fun K "__init__" "NoRow.__init__" s_NoRow_init (A.fi 9) fd9)
    (b_NoRow : Binds K fd9 ["self", "at"] [])
    (F_NoStore : Fun K "__init__" "NoStore.__init__" s_NoStore_init (A.fi 10) fd10)
    (b_NoStore : Binds K fd10 ["self", "found"] [])
    (F_NoKind : Fun K "__init__" "NoKind.__init__" s_NoKind_init (A.fi 11) fd11)
    (b_NoKind : Binds K fd11 ["self", "found"] [])
    (F_NoLog : Fun K "__init__" "NoLog.__init__" s_NoLog_init (A.fi 12) fd12)
    (b_NoLog : Binds K fd12 ["self", "found"] [])
    (F_NoShare : Fun K "__init__" "NoShare.__init__" s_NoShare_init (A.fi 13) fd13)
    (b_NoShare : Binds K fd13 ["self", "found"] [])
    (F_NoSnapshot : Fun K "__init__" "NoSnapshot.__init__" s_NoSnapshot_init (A.fi 14) fd14)
    (b_NoSnapshot : Binds K fd14 ["self", "found"] [])
    (F_NoHouse : Fun K "__init__" "NoHouse.__init__" s_NoHouse_init (A.fi 15) fd15)
    (b_NoHouse : Binds K fd15 ["self", "found"] [])
    (F_NoDeed : Fun K "__init__" "NoDeed.__init__" s_NoDeed_init (A.fi 16) fd16)
    (b_NoDeed : Binds K fd16 ["self", "found"] [])
    (F_NoWorld : Fun K "__init__" "NoWorld.__init__" s_NoWorld_init (A.fi 17) fd17)
    (b_NoWorld : Binds K fd17 ["self", "found"] [])
    (F_NoPaper : Fun K "__init__" "NoPaper.__init__" s_NoPaper_init (A.fi 18) fd18)
    (b_NoPaper : Binds K fd18 ["self", "found"] [])
    (F_NoLine : Fun K "__init__" "NoLine.__init__" s_NoLine_init (A.fi 19) fd19)
    (b_NoLine : Binds K fd19 ["self", "found"] [])
    (F_Doubled : Fun K "__init__" "Doubled.__init__" s_Doubled_init (A.fi 20) fd20)
    (b_Doubled : Binds K fd20 ["self", "found"] [])
    (F_TooMuch : Fun K "__init__" "TooMuch.__init__" s_TooMuch_init (A.fi 21) fd21)
    (b_TooMuch : Binds K fd21 ["self", "many"] [])
    (F_NoGuest : Fun K "__init__" "NoGuest.__init__" s_NoGuest_init (A.fi 22) fd22)
    (b_NoGuest : Binds K fd22 ["self", "found"] [])
    (F_NoAsk : Fun K "__init__" "NoAsk.__init__" s_NoAsk_init (A.fi 23) fd23)
    (b_NoAsk : Binds K fd23 ["self", "found"] [])
    (F_NotOnRoad : Fun K "__init__" "NotOnRoad.__init__" s_NotOnRoad_init (A.fi 24) fd24)
    (b_NotOnRoad : Binds K fd24 ["self", "found"] [])
    (F_NotKept : Fun K "__init__" "NotKept.__init__" s_NotKept_init (A.fi 25) fd25)
    (b_NotKept : Binds K fd25 ["self", "found"] [])
    (F_Ended : Fun K "__init__" "Ended.__init__" s_Ended_init (A.fi 26) fd26)
    (b_Ended : Binds K fd26 ["self", "found"] [])
    (F_Full : Fun K "__init__" "Full.__init__" s_Full_init (A.fi 27) fd27)
    (b_Full : Binds K fd27 ["self", "many"] [])
    (F_Moving : Fun K "__init__" "Moving.__init__" s_Moving_init (A.fi 28) fd28)
    (b_Moving : Binds K fd28 ["self", "found"] [])
    (F_NotMoving : Fun K "__init__" "NotMoving.__init__" s_NotMoving_init (A.fi 29) fd29)
    (b_NotMoving : Binds K fd29 ["self", "found"] [])
    (F_Fallen : Fun K "__init__" "Fallen.__init__" s_Fallen_init (A.fi 30) fd30)
    (b_Fallen : Binds K fd30 ["self", "found"] [])
    (F_Standing : Fun K "__init__" "Standing.__init__" s_Standing_init (A.fi 31) fd31)
    (b_Standing : Binds K fd31 ["self", "found"] [])
    (F_Parted : Fun K "__init__" "Parted.__init__" s_Parted_init (A.fi 32) fd32)
    (b_Parted : Binds K fd32 ["self", "found", "at"] [])
    (F_Over : Fun K "__init__" "Over.__init__" s_Over_init (A.fi 33) fd33)
    (b_Over : Binds K fd33 ["self"] []) :
    Os P w K mg base A := by
  have o_GuestError : Own P w K mg base CX0 1 (A.ff 0) fdF0 ["self", "text"] (spGT K .ve) := ⟨ok_GuestError F_GuestError T, b_GuestError, k_GuestError⟩
  have o_Missing : Own P w K mg base CX0 1 (A.ff 1) fdF1 ["self", "text"] (spGT K .ke) := ⟨ok_Missing F_Missing T, b_Missing, k_Missing⟩
  have o_Barred : Own P w K mg base CX0 1 (A.ff 2) fdF2 ["self", "text"] (spGT K .le) := ⟨ok_Barred F_Barred T, b_Barred, k_Barred⟩
  have f_NoNumber := ok_NoNumber F_NoNumber T o_GuestError
  have f_NoName := ok_NoName F_NoName T o_GuestError
  have f_NoWord := ok_NoWord F_NoWord T o_GuestError
  have f_NoOp := ok_NoOp F_NoOp T o_GuestError
  have f_NoTruth := ok_NoTruth F_NoTruth T o_GuestError
  have f_NoBits := ok_NoBits F_NoBits T o_GuestError
  have f_Nought := ok_Nought F_Nought T o_GuestError
  have f_NoImage := ok_NoImage F_NoImage T o_GuestError
  have f_NoText := ok_NoText F_NoText T o_GuestError
  have f_NoRow := ok_NoRow F_NoRow T o_GuestError
  have f_NoStore := ok_NoStore F_NoStore T o_GuestError
  have f_NoKind := ok_NoKind F_NoKind T o_GuestError
  have f_NoLog := ok_NoLog F_NoLog T o_GuestError
  have f_NoShare := ok_NoShare F_NoShare T o_GuestError
  have f_NoSnapshot := ok_NoSnapshot F_NoSnapshot T o_GuestError
  have f_NoHouse := ok_NoHouse F_NoHouse T o_GuestError
  have f_NoDeed := ok_NoDeed F_NoDeed T o_GuestError
  have f_NoWorld := ok_NoWorld F_NoWorld T o_GuestError
  have f_NoPaper := ok_NoPaper F_NoPaper T o_GuestError
  have f_NoLine := ok_NoLine F_NoLine T o_GuestError
  have f_Doubled := ok_Doubled F_Doubled T o_GuestError
  have f_TooMuch := ok_TooMuch F_TooMuch T o_GuestError
  have f_NoGuest := ok_NoGuest F_NoGuest T o_Missing
  have f_NoAsk := ok_NoAsk F_NoAsk T o_Missing
  have f_NotOnRoad := ok_NotOnRoad F_NotOnRoad T o_Missing
  have f_NotKept := ok_NotKept F_NotKept T o_Missing
  have f_Ended := ok_Ended F_Ended T o_Barred
  have f_Full := ok_Full F_Full T o_Barred
  have f_Moving := ok_Moving F_Moving T o_Barred
  have f_NotMoving := ok_NotMoving F_NotMoving T o_Barred
  have f_Fallen := ok_Fallen F_Fallen T o_Barred
  have f_Standing := ok_Standing F_Standing T o_Barred
  have f_Parted := ok_Parted F_Parted T o_Barred
  have f_Over := ok_Over F_Over T o_Barred
  exact {
    p_NoNumber := mk_p (T.own 0 (by decide)) f_NoNumber b_NoNumber rfl T.g_NoNumber
    k_NoNumber := mk_k (T.own 0 (by decide)) f_NoNumber (kbPlain F_NoNumber 1 ["found"] (fun vs zs => vs ++ zs) (fun r1 r2 => r1.append r2) (fun _ _ _ _ _ _ us ws h1 h2 => match us, ws, h1, h2 with | [_], [_], _, _ => rfl)) T.g_NoNumber
    p_NoName := mk_p (T.own 1 (by decide)) f_NoName b_NoName rfl T.g_NoName
    k_NoName := mk_k (T.own 1 (by decide)) f_NoName (kbPlain F_NoName 1 ["found"] (fun vs zs => vs ++ zs) (fun r1 r2 => r1.append r2) (fun _ _ _ _ _ _ us ws h1 h2 => match us, ws, h1, h2 with | [_], [_], _, _ => rfl)) T.g_NoName
    p_NoWord := mk_p (T.own 2 (by decide)) f_NoWord b_NoWord rfl T.g_NoWord
    k_NoWord := mk_k (T.own 2 (by decide)) f_NoWord (kbPlain F_NoWord 1 ["found"] (fun vs zs => vs ++ zs) (fun r1 r2 => r1.append r2) (fun _ _ _ _ _ _ us ws h1 h2 => match us, ws, h1, h2 with | [_], [_], _, _ => rfl)) T.g_NoWord
    p_NoOp := mk_p (T.own 3 (by decide)) f_NoOp b_NoOp rfl T.g_NoOp
    k_NoOp := mk_k (T.own 3 (by decide)) f_NoOp (kbPlain F_NoOp 1 ["found"] (fun vs zs => vs ++ zs) (fun r1 r2 => r1.append r2) (fun _ _ _ _ _ _ us ws h1 h2 => match us, ws, h1, h2 with | [_], [_], _, _ => rfl)) T.g_NoOp
    p_NoTruth := mk_p (T.own 4 (by decide)) f_NoTruth b_NoTruth rfl T.g_NoTruth
    k_NoTruth := mk_k (T.own 4 (by decide)) f_NoTruth (kbPlain F_NoTruth 1 ["found"] (fun vs zs => vs ++ zs) (fun r1 r2 => r1.append r2) (fun _ _ _ _ _ _ us ws h1 h2 => match us, ws, h1, h2 with | [_], [_], _, _ => rfl)) T.g_NoTruth
    p_NoBits := mk_p (T.own 5 (by decide)) f_NoBits b_NoBits rfl T.g_NoBits
    k_NoBits := mk_k (T.own 5 (by decide)) f_NoBits (kbPlain F_NoBits 1 ["found"] (fun vs zs => vs ++ zs) (fun r1 r2 => r1.append r2) (fun _ _ _ _ _ _ us ws h1 h2 => match us, ws, h1, h2 with | [_], [_], _, _ => rfl)) T.g_NoBits
    p_Nought := mk_p (T.own 6 (by decide)) f_Nought b_Nought rfl T.g_Nought
    k_Nought := mk_k (T.own 6 (by decide)) f_Nought (kbPlain F_Nought 1 ["found"] (fun vs zs => vs ++ zs) (fun r1 r2 => r1.append r2) (fun _ _ _ _ _ _ us ws h1 h2 => match us, ws, h1, h2 with | [_], [_], _, _ => rfl)) T.g_Nought
    p_NoImage := mk_p (T.own 7 (by decide)) f_NoImage b_NoImage rfl T.g_NoImage
    k_NoImage := mk_k (T.own 7 (by decide)) f_NoImage (kbPlain F_NoImage 1 ["found"] (fun vs zs => vs ++ zs) (fun r1 r2 => r1.append r2) (fun _ _ _ _ _ _ us ws h1 h2 => match us, ws, h1, h2 with | [_], [_], _, _ => rfl)) T.g_NoImage
    p_NoText := mk_p (T.own 8 (by decide)) f_NoText b_NoText rfl T.g_NoText
    k_NoText := mk_k (T.own 8 (by decide)) f_NoText (kbPlain F_NoText 1 ["found"] (fun vs zs => vs ++ zs) (fun r1 r2 => r1.append r2) (fun _ _ _ _ _ _ us ws h1 h2 => match us, ws, h1, h2 with | [_], [_], _, _ => rfl)) T.g_NoText
    p_NoRow := mk_p (T.own 9 (by decide)) f_NoRow b_NoRow rfl T.g_NoRow
    k_NoRow := mk_k (T.own 9 (by decide)) f_NoRow (kbPlain F_NoRow 1 ["at"] (fun vs zs => vs ++ zs) (fun r1 r2 => r1.append r2) (fun _ _ _ _ _ _ us ws h1 h2 => match us, ws, h1, h2 with | [_], [_], _, _ => rfl)) T.g_NoRow
    p_NoStore := mk_p (T.own 10 (by decide)) f_NoStore b_NoStore rfl T.g_NoStore
    k_NoStore := mk_k (T.own 10 (by decide)) f_NoStore (kbPlain F_NoStore 1 ["found"] (fun vs zs => vs ++ zs) (fun r1 r2 => r1.append r2) (fun _ _ _ _ _ _ us ws h1 h2 => match us, ws, h1, h2 with | [_], [_], _, _ => rfl)) T.g_NoStore
    p_NoKind := mk_p (T.own 11 (by decide)) f_NoKind b_NoKind rfl T.g_NoKind
    k_NoKind := mk_k (T.own 11 (by decide)) f_NoKind (kbPlain F_NoKind 1 ["found"] (fun vs zs => vs ++ zs) (fun r1 r2 => r1.append r2) (fun _ _ _ _ _ _ us ws h1 h2 => match us, ws, h1, h2 with | [_], [_], _, _ => rfl)) T.g_NoKind
    p_NoLog := mk_p (T.own 12 (by decide)) f_NoLog b_NoLog rfl T.g_NoLog
    k_NoLog := mk_k (T.own 12 (by decide)) f_NoLog (kbPlain F_NoLog 1 ["found"] (fun vs zs => vs ++ zs) (fun r1 r2 => r1.append r2) (fun _ _ _ _ _ _ us ws h1 h2 => match us, ws, h1, h2 with | [_], [_], _, _ => rfl)) T.g_NoLog
    p_NoShare := mk_p (T.own 13 (by decide)) f_NoShare b_NoShare rfl T.g_NoShare
    k_NoShare := mk_k (T.own 13 (by decide)) f_NoShare (kbPlain F_NoShare 1 ["found"] (fun vs zs => vs ++ zs) (fun r1 r2 => r1.append r2) (fun _ _ _ _ _ _ us ws h1 h2 => match us, ws, h1, h2 with | [_], [_], _, _ => rfl)) T.g_NoShare
    p_NoSnapshot := mk_p (T.own 14 (by decide)) f_NoSnapshot b_NoSnapshot rfl T.g_NoSnapshot
    k_NoSnapshot := mk_k (T.own 14 (by decide)) f_NoSnapshot (kbPlain F_NoSnapshot 1 ["found"] (fun vs zs => vs ++ zs) (fun r1 r2 => r1.append r2) (fun _ _ _ _ _ _ us ws h1 h2 => match us, ws, h1, h2 with | [_], [_], _, _ => rfl)) T.g_NoSnapshot
    p_NoHouse := mk_p (T.own 15 (by decide)) f_NoHouse b_NoHouse rfl T.g_NoHouse
    k_NoHouse := mk_k (T.own 15 (by decide)) f_NoHouse (kbPlain F_NoHouse 1 ["found"] (fun vs zs => vs ++ zs) (fun r1 r2 => r1.append r2) (fun _ _ _ _ _ _ us ws h1 h2 => match us, ws, h1, h2 with | [_], [_], _, _ => rfl)) T.g_NoHouse
    p_NoDeed := mk_p (T.own 16 (by decide)) f_NoDeed b_NoDeed rfl T.g_NoDeed
    k_NoDeed := mk_k (T.own 16 (by decide)) f_NoDeed (kbPlain F_NoDeed 1 ["found"] (fun vs zs => vs ++ zs) (fun r1 r2 => r1.append r2) (fun _ _ _ _ _ _ us ws h1 h2 => match us, ws, h1, h2 with | [_], [_], _, _ => rfl)) T.g_NoDeed
    p_NoWorld := mk_p (T.own 17 (by decide)) f_NoWorld b_NoWorld rfl T.g_NoWorld
    k_NoWorld := mk_k (T.own 17 (by decide)) f_NoWorld (kbPlain F_NoWorld 1 ["found"] (fun vs zs => vs ++ zs) (fun r1 r2 => r1.append r2) (fun _ _ _ _ _ _ us ws h1 h2 => match us, ws, h1, h2 with | [_], [_], _, _ => rfl)) T.g_NoWorld
    p_NoPaper := mk_p (T.own 18 (by decide)) f_NoPaper b_NoPaper rfl T.g_NoPaper
    k_NoPaper := mk_k (T.own 18 (by decide)) f_NoPaper (kbPlain F_NoPaper 1 ["found"] (fun vs zs => vs ++ zs) (fun r1 r2 => r1.append r2) (fun _ _ _ _ _ _ us ws h1 h2 => match us, ws, h1, h2 with | [_], [_], _, _ => rfl)) T.g_NoPaper
    p_NoLine := mk_p (T.own 19 (by decide)) f_NoLine b_NoLine rfl T.g_NoLine
    k_NoLine := mk_k (T.own 19 (by decide)) f_NoLine (kbPlain F_NoLine 1 ["found"] (fun vs zs => vs ++ zs) (fun r1 r2 => r1.append r2) (fun _ _ _ _ _ _ us ws h1 h2 => match us, ws, h1, h2 with | [_], [_], _, _ => rfl)) T.g_NoLine
    p_Doubled := mk_p (T.own 20 (by decide)) f_Doubled b_Doubled rfl T.g_Doubled
    k_Doubled := mk_k (T.own 20 (by decide)) f_Doubled (kbPlain F_Doubled 1 ["found"] (fun vs zs => vs ++ zs) (fun r1 r2 => r1.append r2) (fun _ _ _ _ _ _ us ws h1 h2 => match us, ws, h1, h2 with | [_], [_], _, _ => rfl)) T.g_Doubled
    p_TooMuch := mk_p (T.own 21 (by decide)) f_TooMuch b_TooMuch rfl T.g_TooMuch
    k_TooMuch := mk_k (T.own 21 (by decide)) f_TooMuch (kbPlain F_TooMuch 1 ["many"] (fun vs zs => vs ++ zs) (fun r1 r2 => r1.append r2) (fun _ _ _ _ _ _ us ws h1 h2 => match us, ws, h1, h2 with | [_], [_], _, _ => rfl)) T.g_TooMuch
    p_NoGuest := mk_p (T.own 22 (by decide)) f_NoGuest b_NoGuest rfl T.g_NoGuest
    k_NoGuest := mk_k (T.own 22 (by decide)) f_NoGuest (kbPlain F_NoGuest 1 ["found"] (fun vs zs => vs ++ zs) (fun r1 r2 => r1.append r2) (fun _ _ _ _ _ _ us ws h1 h2 => match us, ws, h1, h2 with | [_], [_], _, _ => rfl)) T.g_NoGuest
    p_NoAsk := mk_p (T.own 23 (by decide)) f_NoAsk b_NoAsk rfl T.g_NoAsk
    k_NoAsk := mk_k (T.own 23 (by decide)) f_NoAsk (kbPlain F_NoAsk 1 ["found"] (fun vs zs => vs ++ zs) (fun r1 r2 => r1.append r2) (fun _ _ _ _ _ _ us ws h1 h2 => match us, ws, h1, h2 with | [_], [_], _, _ => rfl)) T.g_NoAsk
    p_NotOnRoad := mk_p (T.own 24 (by decide)) f_NotOnRoad b_NotOnRoad rfl T.g_NotOnRoad
    k_NotOnRoad := mk_k (T.own 24 (by decide)) f_NotOnRoad (kbPlain F_NotOnRoad 1 ["found"] (fun vs zs => vs ++ zs) (fun r1 r2 => r1.append r2) (fun _ _ _ _ _ _ us ws h1 h2 => match us, ws, h1, h2 with | [_], [_], _, _ => rfl)) T.g_NotOnRoad
    p_NotKept := mk_p (T.own 25 (by decide)) f_NotKept b_NotKept rfl T.g_NotKept
    k_NotKept := mk_k (T.own 25 (by decide)) f_NotKept (kbPlain F_NotKept 1 ["found"] (fun vs zs => vs ++ zs) (fun r1 r2 => r1.append r2) (fun _ _ _ _ _ _ us ws h1 h2 => match us, ws, h1, h2 with | [_], [_], _, _ => rfl)) T.g_NotKept
    p_Ended := mk_p (T.own 26 (by decide)) f_Ended b_Ended rfl T.g_Ended
    k_Ended := mk_k (T.own 26 (by decide)) f_Ended (kbPlain F_Ended 1 ["found"] (fun vs zs => vs ++ zs) (fun r1 r2 => r1.append r2) (fun _ _ _ _ _ _ us ws h1 h2 => match us, ws, h1, h2 with | [_], [_], _, _ => rfl)) T.g_Ended
    p_Full := mk_p (T.own 27 (by decide)) f_Full b_Full rfl T.g_Full
    k_Full := mk_k (T.own 27 (by decide)) f_Full (kbPlain F_Full 1 ["many"] (fun vs zs => vs ++ zs) (fun r1 r2 => r1.append r2) (fun _ _ _ _ _ _ us ws h1 h2 => match us, ws, h1, h2 with | [_], [_], _, _ => rfl)) T.g_Full
    p_Moving := mk_p (T.own 28 (by decide)) f_Moving b_Moving rfl T.g_Moving
    k_Moving := mk_k (T.own 28 (by decide)) f_Moving (kbPlain F_Moving 1 ["found"] (fun vs zs => vs ++ zs) (fun r1 r2 => r1.append r2) (fun _ _ _ _ _ _ us ws h1 h2 => match us, ws, h1, h2 with | [_], [_], _, _ => rfl)) T.g_Moving
    p_NotMoving := mk_p (T.own 29 (by decide)) f_NotMoving b_NotMoving rfl T.g_NotMoving
    k_NotMoving := mk_k (T.own 29 (by decide)) f_NotMoving (kbPlain F_NotMoving 1 ["found"] (fun vs zs => vs ++ zs) (fun r1 r2 => r1.append r2) (fun _ _ _ _ _ _ us ws h1 h2 => match us, ws, h1, h2 with | [_], [_], _, _ => rfl)) T.g_NotMoving
    p_Fallen := mk_p (T.own 30 (by decide)) f_Fallen b_Fallen rfl T.g_Fallen
    k_Fallen := mk_k (T.own 30 (by decide)) f_Fallen (kbPlain F_Fallen 1 ["found"] (fun vs zs => vs ++ zs) (fun r1 r2 => r1.append r2) (fun _ _ _ _ _ _ us ws h1 h2 => match us, ws, h1, h2 with | [_], [_], _, _ => rfl)) T.g_Fallen
    p_Standing := mk_p (T.own 31 (by decide)) f_Standing b_Standing rfl T.g_Standing
    k_Standing := mk_k (T.own 31 (by decide)) f_Standing (kbPlain F_Standing 1 ["found"] (fun vs zs => vs ++ zs) (fun r1 r2 => r1.append r2) (fun _ _ _ _ _ _ us ws h1 h2 => match us, ws, h1, h2 with | [_], [_], _, _ => rfl)) T.g_Standing
    p_Parted := mk_p (T.own 32 (by decide)) f_Parted b_Parted rfl T.g_Parted
    k_Parted := mk_k (T.own 32 (by decide)) f_Parted (kbPlain F_Parted 1 ["at", "found"] (fun vs zs => vs ++ zs.reverse) (fun r1 r2 => r1.append (vals_rev r2)) (fun _ _ _ _ _ _ us ws h1 h2 => match us, ws, h1, h2 with | [_], [_, _], _, _ => rfl)) T.g_Parted
    p_Over := mk_p (T.own 33 (by decide)) f_Over b_Over rfl T.g_Over
    p_GuestError := mk_p (T.fam 0 (by decide)) (ok_GuestError F_GuestError T) b_GuestError rfl T.g_GuestError
    p_Missing := mk_p (T.fam 1 (by decide)) (ok_Missing F_Missing T) b_Missing rfl T.g_Missing
    p_Barred := mk_p (T.fam 2 (by decide)) (ok_Barred F_Barred T) b_Barred rfl T.g_Barred
  }
end
end K82

/-! these names are taken, so that the head lays no second copy of the largest heaps: the compiled file stays small -/
def PySem.W.Fast.tw3515317618331349522 : Unit := ()
def PySem.W.Fast.tw382131667193350556 : Unit := ()
def PySem.W.Fast.tw17374696621326922560 : Unit := ()
def PySem.W.Fast.tw13276164017441981077 : Unit := ()
def PySem.W.Fast.tw2286846508249352274 : Unit := ()
def PySem.W.Fast.tw1557894426227124825 : Unit := ()
def PySem.W.Fast.tw8420739613864837032 : Unit := ()
def PySem.W.Fast.tw18445053335358197292 : Unit := ()
def PySem.W.Fast.tw12483854797239562057 : Unit := ()
def PySem.W.Fast.tw16054895620309077957 : Unit := ()
def PySem.W.Fast.tw10707866211483236913 : Unit := ()
def PySem.W.Fast.tw10288937619514184926 : Unit := ()
def PySem.W.Fast.tw6250088982763187859 : Unit := ()
namespace K82
open PySem PySem.Spec PyProof.Rows L2 Bk
theorem all_mk {l : PySem.W.OpenLaw} {w : World} {K : PySem.W.Frag} {h : Heap} {mg : Str → Option Value} {fa C_GuestError C_Missing C_Barred C_NoNumber C_NoName C_NoWord C_NoOp C_NoTruth C_NoBits C_Nought C_NoImage C_NoText C_NoStore C_NoKind C_NoLog C_NoShare C_NoSnapshot C_NoHouse C_NoDeed C_NoWorld C_NoPaper C_NoLine C_Doubled C_NoRow C_TooMuch C_NoGuest C_NoAsk C_NotOnRoad C_NotKept C_Ended C_Moving C_NotMoving C_Fallen C_Standing C_Full C_Parted C_Over f_GuestError_init f_Missing_init f_Barred_init f_NoNumber_init f_NoName_init f_NoWord_init f_NoOp_init f_NoTruth_init f_NoBits_init f_Nought_init f_NoImage_init f_NoText_init f_NoStore_init f_NoKind_init f_NoLog_init f_NoShare_init f_NoSnapshot_init f_NoHouse_init f_NoDeed_init f_NoWorld_init f_NoPaper_init f_NoLine_init f_Doubled_init f_NoRow_init f_TooMuch_init f_NoGuest_init f_NoAsk_init f_NotOnRoad_init f_NotKept_init f_Ended_init f_Moving_init f_NotMoving_init f_Fallen_init f_Standing_init f_Full_init f_Parted_init f_Over_init f_cell_L f_box_L f_take_L f_thing_L f_by_place_L f_by_place_more_L f_by_name_L f_by_name_more_L f_classes_L f_families_L f_due_families_L f_field_L f_grown_L f_right_L f_two_right_L f_base_L f_law : Addr} (X : K.In h) (G : h.Ns mainGlobals mg) (hfa : mg "law" = some (.ref fa))
    {od_GuestError_init an_GuestError_init : Option Addr} {sl_GuestError_init : Array (Option Value)} {oc_GuestError_init kV_GuestError_init dc_GuestError_init pm_GuestError_init cd_GuestError_init ct_GuestError_init : Value}
    {od_Missing_init an_Missing_init : Option Addr} {sl_Missing_init : Array (Option Value)} {oc_Missing_init kV_Missing_init dc_Missing_init pm_Missing_init cd_Missing_init ct_Missing_init : Value}
    {od_Barred_init an_Barred_init : Option Addr} {sl_Barred_init : Array (Option Value)} {oc_Barred_init kV_Barred_init dc_Barred_init pm_Barred_init cd_Barred_init ct_Barred_init : Value}
    {od_NoNumber_init an_NoNumber_init : Option Addr} {sl_NoNumber_init : Array (Option Value)} {oc_NoNumber_init kV_NoNumber_init dc_NoNumber_init pm_NoNumber_init cd_NoNumber_init ct_NoNumber_init : Value}
    {od_NoName_init an_NoName_init : Option Addr} {sl_NoName_init : Array (Option Value)} {oc_NoName_init kV_NoName_init dc_NoName_init pm_NoName_init cd_NoName_init ct_NoName_init : Value}
    {od_NoWord_init an_NoWord_init : Option Addr} {sl_NoWord_init : Array (Option Value)} {oc_NoWord_init kV_NoWord_init dc_NoWord_init pm_NoWord_init cd_NoWord_init ct_NoWord_init : Value}
    {od_NoOp_init an_NoOp_init : Option Addr} {sl_NoOp_init : Array (Option Value)} {oc_NoOp_init kV_NoOp_init dc_NoOp_init pm_NoOp_init cd_NoOp_init ct_NoOp_init : Value}
    {od_NoTruth_init an_NoTruth_init : Option Addr} {sl_NoTruth_init : Array (Option Value)} {oc_NoTruth_init kV_NoTruth_init dc_NoTruth_init pm_NoTruth_init cd_NoTruth_init ct_NoTruth_init : Value}
    {od_NoBits_init an_NoBits_init : Option Addr} {sl_NoBits_init : Array (Option Value)} {oc_NoBits_init kV_NoBits_init dc_NoBits_init pm_NoBits_init cd_NoBits_init ct_NoBits_init : Value}
    {od_Nought_init an_Nought_init : Option Addr} {sl_Nought_init : Array (Option Value)} {oc_Nought_init kV_Nought_init dc_Nought_init pm_Nought_init cd_Nought_init ct_Nought_init : Value}
    {od_NoImage_init an_NoImage_init : Option Addr} {sl_NoImage_init : Array (Option Value)} {oc_NoImage_init kV_NoImage_init dc_NoImage_init pm_NoImage_init cd_NoImage_init ct_NoImage_init : Value}
    {od_NoText_init an_NoText_init : Option Addr} {sl_NoText_init : Array (Option Value)} {oc_NoText_init kV_NoText_init dc_NoText_init pm_NoText_init cd_NoText_init ct_NoText_init : Value}
    {od_NoStore_init an_NoStore_init : Option Addr} {sl_NoStore_init : Array (Option Value)} {oc_NoStore_init kV_NoStore_init dc_NoStore_init pm_NoStore_init cd_NoStore_init ct_NoStore_init : Value}
    {od_NoKind_init an_NoKind_init : Option Addr} {sl_NoKind_init : Array (Option Value)} {oc_NoKind_init kV_NoKind_init dc_NoKind_init pm_NoKind_init cd_NoKind_init ct_NoKind_init : Value}
    {od_NoLog_init an_NoLog_init : Option Addr} {sl_NoLog_init : Array (Option Value)} {oc_NoLog_init kV_NoLog_init dc_NoLog_init pm_NoLog_init cd_NoLog_init ct_NoLog_init : Value}
    {od_NoShare_init an_NoShare_init : Option Addr} {sl_NoShare_init : Array (Option Value)} {oc_NoShare_init kV_NoShare_init dc_NoShare_init pm_NoShare_init cd_NoShare_init ct_NoShare_init : Value}
    {od_NoSnapshot_init an_NoSnapshot_init : Option Addr} {sl_NoSnapshot_init : Array (Option Value)} {oc_NoSnapshot_init kV_NoSnapshot_init dc_NoSnapshot_init pm_NoSnapshot_init cd_NoSnapshot_init ct_NoSnapshot_init : Value}
    {od_NoHouse_init an_NoHouse_init : Option Addr} {sl_NoHouse_init : Array (Option Value)} {oc_NoHouse_init kV_NoHouse_init dc_NoHouse_init pm_NoHouse_init cd_NoHouse_init ct_NoHouse_init : Value}
    {od_NoDeed_init an_NoDeed_init : Option Addr} {sl_NoDeed_init : Array (Option Value)} {oc_NoDeed_init kV_NoDeed_init dc_NoDeed_init pm_NoDeed_init cd_NoDeed_init ct_NoDeed_init : Value}
    {od_NoWorld_init an_NoWorld_init : Option Addr} {sl_NoWorld_init : Array (Option Value)} {oc_NoWorld_init kV_NoWorld_init dc_NoWorld_init pm_NoWorld_init cd_NoWorld_init ct_NoWorld_init : Value}
    {od_NoPaper_init an_NoPaper_init : Option Addr} {sl_NoPaper_init : Array (Option Value)} {oc_NoPaper_init kV_NoPaper_init dc_NoPaper_init pm_NoPaper_init cd_NoPaper_init ct_NoPaper_init : Value}
    {od_NoLine_init an_NoLine_init : Option Addr} {sl_NoLine_init : Array (Option Value)} {oc_NoLine_init kV_NoLine_init dc_NoLine_init pm_NoLine_init cd_NoLine_init ct_NoLine_init : Value}
    {od_Doubled_init an_Doubled_init : Option Addr} {sl_Doubled_init : Array (Option Value)} {oc_Doubled_init kV_Doubled_init dc_Doubled_init pm_Doubled_init cd_Doubled_init ct_Doubled_init : Value}
    {od_NoRow_init an_NoRow_init : Option Addr} {sl_NoRow_init : Array (Option Value)} {oc_NoRow_init kV_NoRow_init dc_NoRow_init pm_NoRow_init cd_NoRow_init ct_NoRow_init : Value}
    {od_TooMuch_init an_TooMuch_init : Option Addr} {sl_TooMuch_init : Array (Option Value)} {oc_TooMuch_init kV_TooMuch_init dc_TooMuch_init pm_TooMuch_init cd_TooMuch_init ct_TooMuch_init : Value}
    {od_NoGuest_init an_NoGuest_init : Option Addr} {sl_NoGuest_init : Array (Option Value)} {oc_NoGuest_init kV_NoGuest_init dc_NoGuest_init pm_NoGuest_init cd_NoGuest_init ct_NoGuest_init : Value}
    {od_NoAsk_init an_NoAsk_init : Option Addr} {sl_NoAsk_init : Array (Option Value)} {oc_NoAsk_init kV_NoAsk_init dc_NoAsk_init pm_NoAsk_init cd_NoAsk_init ct_NoAsk_init : Value}
    {od_NotOnRoad_init an_NotOnRoad_init : Option Addr} {sl_NotOnRoad_init : Array (Option Value)} {oc_NotOnRoad_init kV_NotOnRoad_init dc_NotOnRoad_init pm_NotOnRoad_init cd_NotOnRoad_init ct_NotOnRoad_init : Value}
    {od_NotKept_init an_NotKept_init : Option Addr} {sl_NotKept_init : Array (Option Value)} {oc_NotKept_init kV_NotKept_init dc_NotKept_init pm_NotKept_init cd_NotKept_init ct_NotKept_init : Value}
    {od_Ended_init an_Ended_init : Option Addr} {sl_Ended_init : Array (Option Value)} {oc_Ended_init kV_Ended_init dc_Ended_init pm_Ended_init cd_Ended_init ct_Ended_init : Value}
    {od_Moving_init an_Moving_init : Option Addr} {sl_Moving_init : Array (Option Value)} {oc_Moving_init kV_Moving_init dc_Moving_init pm_Moving_init cd_Moving_init ct_Moving_init : Value}
    {od_NotMoving_init an_NotMoving_init : Option Addr} {sl_NotMoving_init : Array (Option Value)} {oc_NotMoving_init kV_NotMoving_init dc_NotMoving_init pm_NotMoving_init cd_NotMoving_init ct_NotMoving_init : Value}
    {od_Fallen_init an_Fallen_init : Option Addr} {sl_Fallen_init : Array (Option Value)} {oc_Fallen_init kV_Fallen_init dc_Fallen_init pm_Fallen_init cd_Fallen_init ct_Fallen_init : Value}
    {od_Standing_init an_Standing_init : Option Addr} {sl_Standing_init : Array (Option Value)} {oc_Standing_init kV_Standing_init dc_Standing_init pm_Standing_init cd_Standing_init ct_Standing_init : Value}
    {od_Full_init an_Full_init : Option Addr} {sl_Full_init : Array (Option Value)} {oc_Full_init kV_Full_init dc_Full_init pm_Full_init cd_Full_init ct_Full_init : Value}
    {od_Parted_init an_Parted_init : Option Addr} {sl_Parted_init : Array (Option Value)} {oc_Parted_init kV_Parted_init dc_Parted_init pm_Parted_init cd_Parted_init ct_Parted_init : Value}
    {od_Over_init an_Over_init : Option Addr} {sl_Over_init : Array (Option Value)} {oc_Over_init kV_Over_init dc_Over_init pm_Over_init cd_Over_init ct_Over_init : Value}
    {od_cell_L an_cell_L : Option Addr} {sl_cell_L : Array (Option Value)} {oc_cell_L kV_cell_L dc_cell_L pm_cell_L cd_cell_L ct_cell_L : Value}
    {od_box_L an_box_L : Option Addr} {sl_box_L : Array (Option Value)} {oc_box_L kV_box_L dc_box_L pm_box_L cd_box_L ct_box_L : Value}
    {od_take_L an_take_L : Option Addr} {sl_take_L : Array (Option Value)} {oc_take_L kV_take_L dc_take_L pm_take_L cd_take_L ct_take_L : Value}
    {od_thing_L an_thing_L : Option Addr} {sl_thing_L : Array (Option Value)} {oc_thing_L kV_thing_L dc_thing_L pm_thing_L cd_thing_L ct_thing_L : Value}
    {od_by_place_L an_by_place_L : Option Addr} {sl_by_place_L : Array (Option Value)} {oc_by_place_L kV_by_place_L dc_by_place_L pm_by_place_L cd_by_place_L ct_by_place_L : Value}
    {od_by_place_more_L an_by_place_more_L : Option Addr} {sl_by_place_more_L : Array (Option Value)} {oc_by_place_more_L kV_by_place_more_L dc_by_place_more_L pm_by_place_more_L cd_by_place_more_L ct_by_place_more_L : Value}
    {od_by_name_L an_by_name_L : Option Addr} {sl_by_name_L : Array (Option Value)} {oc_by_name_L kV_by_name_L dc_by_name_L pm_by_name_L cd_by_name_L ct_by_name_L : Value}
    {od_by_name_more_L an_by_name_more_L : Option Addr} {sl_by_name_more_L : Array (Option Value)} {oc_by_name_more_L kV_by_name_more_L dc_by_name_more_L pm_by_name_more_L cd_by_name_more_L ct_by_name_more_L : Value}
    {od_classes_L an_classes_L : Option Addr} {sl_classes_L : Array (Option Value)} {oc_classes_L kV_classes_L dc_classes_L pm_classes_L cd_classes_L ct_classes_L : Value}
    {od_families_L an_families_L : Option Addr} {sl_families_L : Array (Option Value)} {oc_families_L kV_families_L dc_families_L pm_families_L cd_families_L ct_families_L : Value}
    {od_due_families_L an_due_families_L : Option Addr} {sl_due_families_L : Array (Option Value)} {oc_due_families_L kV_due_families_L dc_due_families_L pm_due_families_L cd_due_families_L ct_due_families_L : Value}
    {od_field_L an_field_L : Option Addr} {sl_field_L : Array (Option Value)} {oc_field_L kV_field_L dc_field_L pm_field_L cd_field_L ct_field_L : Value}
    {od_grown_L an_grown_L : Option Addr} {sl_grown_L : Array (Option Value)} {oc_grown_L kV_grown_L dc_grown_L pm_grown_L cd_grown_L ct_grown_L : Value}
    {od_right_L an_right_L : Option Addr} {sl_right_L : Array (Option Value)} {oc_right_L kV_right_L dc_right_L pm_right_L cd_right_L ct_right_L : Value}
    {od_two_right_L an_two_right_L : Option Addr} {sl_two_right_L : Array (Option Value)} {oc_two_right_L kV_two_right_L dc_two_right_L pm_two_right_L cd_two_right_L ct_two_right_L : Value}
    {od_base_L an_base_L : Option Addr} {sl_base_L : Array (Option Value)} {oc_base_L kV_base_L dc_base_L pm_base_L cd_base_L ct_base_L : Value}
    {od_law an_law : Option Addr} {sl_law : Array (Option Value)} {oc_law kV_law dc_law pm_law cd_law ct_law : Value}
    {nmNoNumber qNoNumber : Str} {NNoNumber : Addr} {bsNoNumber : List Value} {snNoNumber : List Str} {subNoNumber : List Value} {abNoNumber : Bool} {colNoNumber : Option Bool} {ddNoNumber : Option Addr} {wNoNumber0 wNoNumber1 wNoNumber2 wNoNumber3 wNoNumber5 : Option Value}
    {nmNoName qNoName : Str} {NNoName : Addr} {bsNoName : List Value} {snNoName : List Str} {subNoName : List Value} {abNoName : Bool} {colNoName : Option Bool} {ddNoName : Option Addr} {wNoName0 wNoName1 wNoName2 wNoName3 wNoName5 : Option Value}
    {nmNoWord qNoWord : Str} {NNoWord : Addr} {bsNoWord : List Value} {snNoWord : List Str} {subNoWord : List Value} {abNoWord : Bool} {colNoWord : Option Bool} {ddNoWord : Option Addr} {wNoWord0 wNoWord1 wNoWord2 wNoWord3 wNoWord5 : Option Value}
    {nmNoOp qNoOp : Str} {NNoOp : Addr} {bsNoOp : List Value} {snNoOp : List Str} {subNoOp : List Value} {abNoOp : Bool} {colNoOp : Option Bool} {ddNoOp : Option Addr} {wNoOp0 wNoOp1 wNoOp2 wNoOp3 wNoOp5 : Option Value}
    {nmNoTruth qNoTruth : Str} {NNoTruth : Addr} {bsNoTruth : List Value} {snNoTruth : List Str} {subNoTruth : List Value} {abNoTruth : Bool} {colNoTruth : Option Bool} {ddNoTruth : Option Addr} {wNoTruth0 wNoTruth1 wNoTruth2 wNoTruth3 wNoTruth5 : Option Value}
    {nmNoBits qNoBits : Str} {NNoBits : Addr} {bsNoBits : List Value} {snNoBits : List Str} {subNoBits : List Value} {abNoBits : Bool} {colNoBits : Option Bool} {ddNoBits : Option Addr} {wNoBits0 wNoBits1 wNoBits2 wNoBits3 wNoBits5 : Option Value}
    {nmNought qNought : Str} {NNought : Addr} {bsNought : List Value} {snNought : List Str} {subNought : List Value} {abNought : Bool} {colNought : Option Bool} {ddNought : Option Addr} {wNought0 wNought1 wNought2 wNought3 wNought5 : Option Value}
    {nmNoImage qNoImage : Str} {NNoImage : Addr} {bsNoImage : List Value} {snNoImage : List Str} {subNoImage : List Value} {abNoImage : Bool} {colNoImage : Option Bool} {ddNoImage : Option Addr} {wNoImage0 wNoImage1 wNoImage2 wNoImage3 wNoImage5 : Option Value}
    {nmNoText qNoText : Str} {NNoText : Addr} {bsNoText : List Value} {snNoText : List Str} {subNoText : List Value} {abNoText : Bool} {colNoText : Option Bool} {ddNoText : Option Addr} {wNoText0 wNoText1 wNoText2 wNoText3 wNoText5 : Option Value}
    {nmNoRow qNoRow : Str} {NNoRow : Addr} {bsNoRow : List Value} {snNoRow : List Str} {subNoRow : List Value} {abNoRow : Bool} {colNoRow : Option Bool} {ddNoRow : Option Addr} {wNoRow0 wNoRow1 wNoRow2 wNoRow3 wNoRow5 : Option Value}
    {nmNoStore qNoStore : Str} {NNoStore : Addr} {bsNoStore : List Value} {snNoStore : List Str} {subNoStore : List Value} {abNoStore : Bool} {colNoStore : Option Bool} {ddNoStore : Option Addr} {wNoStore0 wNoStore1 wNoStore2 wNoStore3 wNoStore5 : Option Value}
    {nmNoKind qNoKind : Str} {NNoKind : Addr} {bsNoKind : List Value} {snNoKind : List Str} {subNoKind : List Value} {abNoKind : Bool} {colNoKind : Option Bool} {ddNoKind : Option Addr} {wNoKind0 wNoKind1 wNoKind2 wNoKind3 wNoKind5 : Option Value}
    {nmNoLog qNoLog : Str} {NNoLog : Addr} {bsNoLog : List Value} {snNoLog : List Str} {subNoLog : List Value} {abNoLog : Bool} {colNoLog : Option Bool} {ddNoLog : Option Addr} {wNoLog0 wNoLog1 wNoLog2 wNoLog3 wNoLog5 : Option Value}
    {nmNoShare qNoShare : Str} {NNoShare : Addr} {bsNoShare : List Value} {snNoShare : List Str} {subNoShare : List Value} {abNoShare : Bool} {colNoShare : Option Bool} {ddNoShare : Option Addr} {wNoShare0 wNoShare1 wNoShare2 wNoShare3 wNoShare5 : Option Value}
    {nmNoSnapshot qNoSnapshot : Str} {NNoSnapshot : Addr} {bsNoSnapshot : List Value} {snNoSnapshot : List Str} {subNoSnapshot : List Value} {abNoSnapshot : Bool} {colNoSnapshot : Option Bool} {ddNoSnapshot : Option Addr} {wNoSnapshot0 wNoSnapshot1 wNoSnapshot2 wNoSnapshot3 wNoSnapshot5 : Option Value}
    {nmNoHouse qNoHouse : Str} {NNoHouse : Addr} {bsNoHouse : List Value} {snNoHouse : List Str} {subNoHouse : List Value} {abNoHouse : Bool} {colNoHouse : Option Bool} {ddNoHouse : Option Addr} {wNoHouse0 wNoHouse1 wNoHouse2 wNoHouse3 wNoHouse5 : Option Value}
    {nmNoDeed qNoDeed : Str} {NNoDeed : Addr} {bsNoDeed : List Value} {snNoDeed : List Str} {subNoDeed : List Value} {abNoDeed : Bool} {colNoDeed : Option Bool} {ddNoDeed : Option Addr} {wNoDeed0 wNoDeed1 wNoDeed2 wNoDeed3 wNoDeed5 : Option Value}
    {nmNoWorld qNoWorld : Str} {NNoWorld : Addr} {bsNoWorld : List Value} {snNoWorld : List Str} {subNoWorld : List Value} {abNoWorld : Bool} {colNoWorld : Option Bool} {ddNoWorld : Option Addr} {wNoWorld0 wNoWorld1 wNoWorld2 wNoWorld3 wNoWorld5 : Option Value}
    {nmNoPaper qNoPaper : Str} {NNoPaper : Addr} {bsNoPaper : List Value} {snNoPaper : List Str} {subNoPaper : List Value} {abNoPaper : Bool} {colNoPaper : Option Bool} {ddNoPaper : Option Addr} {wNoPaper0 wNoPaper1 wNoPaper2 wNoPaper3 wNoPaper5 : Option Value}
    {nmNoLine qNoLine : Str} {NNoLine : Addr} {bsNoLine : List Value} {snNoLine : List Str} {subNoLine : List Value} {abNoLine : Bool} {colNoLine : Option Bool} {ddNoLine : Option Addr} {wNoLine0 wNoLine1 wNoLine2 wNoLine3 wNoLine5 : Option Value}
    {nmDoubled qDoubled : Str} {NDoubled : Addr} {bsDoubled : List Value} {snDoubled : List Str} {subDoubled : List Value} {abDoubled : Bool} {colDoubled : Option Bool} {ddDoubled : Option Addr} {wDoubled0 wDoubled1 wDoubled2 wDoubled3 wDoubled5 : Option Value}
    {nmTooMuch qTooMuch : Str} {NTooMuch : Addr} {bsTooMuch : List Value} {snTooMuch : List Str} {subTooMuch : List Value} {abTooMuch : Bool} {colTooMuch : Option Bool} {ddTooMuch : Option Addr} {wTooMuch0 wTooMuch1 wTooMuch2 wTooMuch3 wTooMuch5 : Option Value}
    {nmNoGuest qNoGuest : Str} {NNoGuest : Addr} {bsNoGuest : List Value} {snNoGuest : List Str} {subNoGuest : List Value} {abNoGuest : Bool} {colNoGuest : Option Bool} {ddNoGuest : Option Addr} {wNoGuest0 wNoGuest1 wNoGuest2 wNoGuest3 wNoGuest5 : Option Value}
    {nmNoAsk qNoAsk : Str} {NNoAsk : Addr} {bsNoAsk : List Value} {snNoAsk : List Str} {subNoAsk : List Value} {abNoAsk : Bool} {colNoAsk : Option Bool} {ddNoAsk : Option Addr} {wNoAsk0 wNoAsk1 wNoAsk2 wNoAsk3 wNoAsk5 : Option Value}
    {nmNotOnRoad qNotOnRoad : Str} {NNotOnRoad : Addr} {bsNotOnRoad : List Value} {snNotOnRoad : List Str} {subNotOnRoad : List Value} {abNotOnRoad : Bool} {colNotOnRoad : Option Bool} {ddNotOnRoad : Option Addr} {wNotOnRoad0 wNotOnRoad1 wNotOnRoad2 wNotOnRoad3 wNotOnRoad5 : Option Value}
    {nmNotKept qNotKept : Str} {NNotKept : Addr} {bsNotKept : List Value} {snNotKept : List Str} {subNotKept : List Value} {abNotKept : Bool} {colNotKept : Option Bool} {ddNotKept : Option Addr} {wNotKept0 wNotKept1 wNotKept2 wNotKept3 wNotKept5 : Option Value}
    {nmEnded qEnded : Str} {NEnded : Addr} {bsEnded : List Value} {snEnded : List Str} {subEnded : List Value} {abEnded : Bool} {colEnded : Option Bool} {ddEnded : Option Addr} {wEnded0 wEnded1 wEnded2 wEnded3 wEnded5 : Option Value}
    {nmFull qFull : Str} {NFull : Addr} {bsFull : List Value} {snFull : List Str} {subFull : List Value} {abFull : Bool} {colFull : Option Bool} {ddFull : Option Addr} {wFull0 wFull1 wFull2 wFull3 wFull5 : Option Value}
    {nmMoving qMoving : Str} {NMoving : Addr} {bsMoving : List Value} {snMoving : List Str} {subMoving : List Value} {abMoving : Bool} {colMoving : Option Bool} {ddMoving : Option Addr} {wMoving0 wMoving1 wMoving2 wMoving3 wMoving5 : Option Value}
    {nmNotMoving qNotMoving : Str} {NNotMoving : Addr} {bsNotMoving : List Value} {snNotMoving : List Str} {subNotMoving : List Value} {abNotMoving : Bool} {colNotMoving : Option Bool} {ddNotMoving : Option Addr} {wNotMoving0 wNotMoving1 wNotMoving2 wNotMoving3 wNotMoving5 : Option Value}
    {nmFallen qFallen : Str} {NFallen : Addr} {bsFallen : List Value} {snFallen : List Str} {subFallen : List Value} {abFallen : Bool} {colFallen : Option Bool} {ddFallen : Option Addr} {wFallen0 wFallen1 wFallen2 wFallen3 wFallen5 : Option Value}
    {nmStanding qStanding : Str} {NStanding : Addr} {bsStanding : List Value} {snStanding : List Str} {subStanding : List Value} {abStanding : Bool} {colStanding : Option Bool} {ddStanding : Option Addr} {wStanding0 wStanding1 wStanding2 wStanding3 wStanding5 : Option Value}
    {nmParted qParted : Str} {NParted : Addr} {bsParted : List Value} {snParted : List Str} {subParted : List Value} {abParted : Bool} {colParted : Option Bool} {ddParted : Option Addr} {wParted0 wParted1 wParted2 wParted3 wParted5 : Option Value}
    {nmOver qOver : Str} {NOver : Addr} {bsOver : List Value} {snOver : List Str} {subOver : List Value} {abOver : Bool} {colOver : Option Bool} {ddOver : Option Addr} {wOver0 wOver1 wOver2 wOver3 wOver5 : Option Value}
    {nmGuestError qGuestError : Str} {NGuestError : Addr} {bsGuestError : List Value} {snGuestError : List Str} {subGuestError : List Value} {abGuestError : Bool} {colGuestError : Option Bool} {ddGuestError : Option Addr} {wGuestError0 wGuestError1 wGuestError2 wGuestError3 wGuestError5 : Option Value}
    {nmMissing qMissing : Str} {NMissing : Addr} {bsMissing : List Value} {snMissing : List Str} {subMissing : List Value} {abMissing : Bool} {colMissing : Option Bool} {ddMissing : Option Addr} {wMissing0 wMissing1 wMissing2 wMissing3 wMissing5 : Option Value}
    {nmBarred qBarred : Str} {NBarred : Addr} {bsBarred : List Value} {snBarred : List Str} {subBarred : List Value} {abBarred : Bool} {colBarred : Option Bool} {ddBarred : Option Addr} {wBarred0 wBarred1 wBarred2 wBarred3 wBarred5 : Option Value}
    (aC_GuestError : PySem.W.nsIn K mainGlobals "GuestError" = some (some (.ref C_GuestError)))
    (aC_Missing : PySem.W.nsIn K mainGlobals "Missing" = some (some (.ref C_Missing)))
    (aC_Barred : PySem.W.nsIn K mainGlobals "Barred" = some (some (.ref C_Barred)))
    (aC_NoNumber : PySem.W.nsIn K mainGlobals "NoNumber" = some (some (.ref C_NoNumber)))
    (aC_NoName : PySem.W.nsIn K mainGlobals "NoName" = some (some (.ref C_NoName)))
    (aC_NoWord : PySem.W.nsIn K mainGlobals "NoWord" = some (some (.ref C_NoWord)))
    (aC_NoOp : PySem.W.nsIn K mainGlobals "NoOp" = some (some (.ref C_NoOp)))
    (aC_NoTruth : PySem.W.nsIn K mainGlobals "NoTruth" = some (some (.ref C_NoTruth)))
    (aC_NoBits : PySem.W.nsIn K mainGlobals "NoBits" = some (some (.ref C_NoBits)))
    (aC_Nought : PySem.W.nsIn K mainGlobals "Nought" = some (some (.ref C_Nought)))
    (aC_NoImage : PySem.W.nsIn K mainGlobals "NoImage" = some (some (.ref C_NoImage)))
    (aC_NoText : PySem.W.nsIn K mainGlobals "NoText" = some (some (.ref C_NoText)))
    (aC_NoStore : PySem.W.nsIn K mainGlobals "NoStore" = some (some (.ref C_NoStore)))
    (aC_NoKind : PySem.W.nsIn K mainGlobals "NoKind" = some (some (.ref C_NoKind)))
    (aC_NoLog : PySem.W.nsIn K mainGlobals "NoLog" = some (some (.ref C_NoLog)))
    (aC_NoShare : PySem.W.nsIn K mainGlobals "NoShare" = some (some (.ref C_NoShare)))
    (aC_NoSnapshot : PySem.W.nsIn K mainGlobals "NoSnapshot" = some (some (.ref C_NoSnapshot)))
    (aC_NoHouse : PySem.W.nsIn K mainGlobals "NoHouse" = some (some (.ref C_NoHouse)))
    (aC_NoDeed : PySem.W.nsIn K mainGlobals "NoDeed" = some (some (.ref C_NoDeed)))
    (aC_NoWorld : PySem.W.nsIn K mainGlobals "NoWorld" = some (some (.ref C_NoWorld)))
    (aC_NoPaper : PySem.W.nsIn K mainGlobals "NoPaper" = some (some (.ref C_NoPaper)))
    (aC_NoLine : PySem.W.nsIn K mainGlobals "NoLine" = some (some (.ref C_NoLine)))
    (aC_Doubled : PySem.W.nsIn K mainGlobals "Doubled" = some (some (.ref C_Doubled)))
    (aC_NoRow : PySem.W.nsIn K mainGlobals "NoRow" = some (some (.ref C_NoRow)))
    (aC_TooMuch : PySem.W.nsIn K mainGlobals "TooMuch" = some (some (.ref C_TooMuch)))
    (aC_NoGuest : PySem.W.nsIn K mainGlobals "NoGuest" = some (some (.ref C_NoGuest)))
    (aC_NoAsk : PySem.W.nsIn K mainGlobals "NoAsk" = some (some (.ref C_NoAsk)))
    (aC_NotOnRoad : PySem.W.nsIn K mainGlobals "NotOnRoad" = some (some (.ref C_NotOnRoad)))
    (aC_NotKept : PySem.W.nsIn K mainGlobals "NotKept" = some (some (.ref C_NotKept)))
    (aC_Ended : PySem.W.nsIn K mainGlobals "Ended" = some (some (.ref C_Ended)))
    (aC_Moving : PySem.W.nsIn K mainGlobals "Moving" = some (some (.ref C_Moving)))
    (aC_NotMoving : PySem.W.nsIn K mainGlobals "NotMoving" = some (some (.ref C_NotMoving)))
    (aC_Fallen : PySem.W.nsIn K mainGlobals "Fallen" = some (some (.ref C_Fallen)))
    (aC_Standing : PySem.W.nsIn K mainGlobals "Standing" = some (some (.ref C_Standing)))
    (aC_Full : PySem.W.nsIn K mainGlobals "Full" = some (some (.ref C_Full)))
    (aC_Parted : PySem.W.nsIn K mainGlobals "Parted" = some (some (.ref C_Parted)))
    (aC_Over : PySem.W.nsIn K mainGlobals "Over" = some (some (.ref C_Over)))
    (a_GuestError_init : PySem.W.findIn K (.ref C_GuestError) "__init__" = some (some (.ref f_GuestError_init)))
    (l_GuestError_init : K.lookup f_GuestError_init = some ⟨oc_GuestError_init, od_GuestError_init, .func (PySem.W.fnOf "__init__" "GuestError.__init__" (defArgs s_GuestError_init) (defBody s_GuestError_init) (defScope s_GuestError_init) .none kV_GuestError_init dc_GuestError_init pm_GuestError_init an_GuestError_init cd_GuestError_init ct_GuestError_init), sl_GuestError_init⟩)
    (c_GuestError_init : PySem.W.codeIn K cd_GuestError_init "GuestError.__init__" = true)
    (k_GuestError_init : PySem.W.keepIn K (.ref f_GuestError_init) = true)
    (a_Missing_init : PySem.W.findIn K (.ref C_Missing) "__init__" = some (some (.ref f_Missing_init)))
    (l_Missing_init : K.lookup f_Missing_init = some ⟨oc_Missing_init, od_Missing_init, .func (PySem.W.fnOf "__init__" "Missing.__init__" (defArgs s_Missing_init) (defBody s_Missing_init) (defScope s_Missing_init) .none kV_Missing_init dc_Missing_init pm_Missing_init an_Missing_init cd_Missing_init ct_Missing_init), sl_Missing_init⟩)
    (c_Missing_init : PySem.W.codeIn K cd_Missing_init "Missing.__init__" = true)
    (k_Missing_init : PySem.W.keepIn K (.ref f_Missing_init) = true)
    (a_Barred_init : PySem.W.findIn K (.ref C_Barred) "__init__" = some (some (.ref f_Barred_init)))
    (l_Barred_init : K.lookup f_Barred_init = some ⟨oc_Barred_init, od_Barred_init, .func (PySem.W.fnOf "__init__" "Barred.__init__" (defArgs s_Barred_init) (defBody s_Barred_init) (defScope s_Barred_init) .none kV_Barred_init dc_Barred_init pm_Barred_init an_Barred_init cd_Barred_init ct_Barred_init), sl_Barred_init⟩)
    (c_Barred_init : PySem.W.codeIn K cd_Barred_init "Barred.__init__" = true)
    (k_Barred_init : PySem.W.keepIn K (.ref f_Barred_init) = true)
    (a_NoNumber_init : PySem.W.findIn K (.ref C_NoNumber) "__init__" = some (some (.ref f_NoNumber_init)))
    (l_NoNumber_init : K.lookup f_NoNumber_init = some ⟨oc_NoNumber_init, od_NoNumber_init, .func (PySem.W.fnOf "__init__" "NoNumber.__init__" (defArgs s_NoNumber_init) (defBody s_NoNumber_init) (defScope s_NoNumber_init) .none kV_NoNumber_init dc_NoNumber_init pm_NoNumber_init an_NoNumber_init cd_NoNumber_init ct_NoNumber_init), sl_NoNumber_init⟩)
    (c_NoNumber_init : PySem.W.codeIn K cd_NoNumber_init "NoNumber.__init__" = true)
    (k_NoNumber_init : PySem.W.keepIn K (.ref f_NoNumber_init) = true)
    (a_NoName_init : PySem.W.findIn K (.ref C_NoName) "__init__" = some (some (.ref f_NoName_init)))
    (l_NoName_init : K.lookup f_NoName_init = some ⟨oc_NoName_init, od_NoName_init, .func (PySem.W.fnOf "__init__" "NoName.__init__" (defArgs s_NoName_init) (defBody s_NoName_init) (defScope s_NoName_init) .none kV_NoName_init dc_NoName_init pm_NoName_init an_NoName_init cd_NoName_init ct_NoName_init), sl_NoName_init⟩)
    (c_NoName_init : PySem.W.codeIn K cd_NoName_init "NoName.__init__" = true)
    (k_NoName_init : PySem.W.keepIn K (.ref f_NoName_init) = true)
    (a_NoWord_init : PySem.W.findIn K (.ref C_NoWord) "__init__" = some (some (.ref f_NoWord_init)))
    (l_NoWord_init : K.lookup f_NoWord_init = some ⟨oc_NoWord_init, od_NoWord_init, .func (PySem.W.fnOf "__init__" "NoWord.__init__" (defArgs s_NoWord_init) (defBody s_NoWord_init) (defScope s_NoWord_init) .none kV_NoWord_init dc_NoWord_init pm_NoWord_init an_NoWord_init cd_NoWord_init ct_NoWord_init), sl_NoWord_init⟩)
    (c_NoWord_init : PySem.W.codeIn K cd_NoWord_init "NoWord.__init__" = true)
    (k_NoWord_init : PySem.W.keepIn K (.ref f_NoWord_init) = true)
    (a_NoOp_init : PySem.W.findIn K (.ref C_NoOp) "__init__" = some (some (.ref f_NoOp_init)))
    (l_NoOp_init : K.lookup f_NoOp_init = some ⟨oc_NoOp_init, od_NoOp_init, .func (PySem.W.fnOf "__init__" "NoOp.__init__" (defArgs s_NoOp_init) (defBody s_NoOp_init) (defScope s_NoOp_init) .none kV_NoOp_init dc_NoOp_init pm_NoOp_init an_NoOp_init cd_NoOp_init ct_NoOp_init), sl_NoOp_init⟩)
    (c_NoOp_init : PySem.W.codeIn K cd_NoOp_init "NoOp.__init__" = true)
    (k_NoOp_init : PySem.W.keepIn K (.ref f_NoOp_init) = true)
    (a_NoTruth_init : PySem.W.findIn K (.ref C_NoTruth) "__init__" = some (some (.ref f_NoTruth_init)))
    (l_NoTruth_init : K.lookup f_NoTruth_init = some ⟨oc_NoTruth_init, od_NoTruth_init, .func (PySem.W.fnOf "__init__" "NoTruth.__init__" (defArgs s_NoTruth_init) (defBody s_NoTruth_init) (defScope s_NoTruth_init) .none kV_NoTruth_init dc_NoTruth_init pm_NoTruth_init an_NoTruth_init cd_NoTruth_init ct_NoTruth_init), sl_NoTruth_init⟩)
    (c_NoTruth_init : PySem.W.codeIn K cd_NoTruth_init "NoTruth.__init__" = true)
    (k_NoTruth_init : PySem.W.keepIn K (.ref f_NoTruth_init) = true)
    (a_NoBits_init : PySem.W.findIn K (.ref C_NoBits) "__init__" = some (some (.ref f_NoBits_init)))
    (l_NoBits_init : K.lookup f_NoBits_init = some ⟨oc_NoBits_init, od_NoBits_init, .func (PySem.W.fnOf "__init__" "NoBits.__init__" (defArgs s_NoBits_init) (defBody s_NoBits_init) (defScope s_NoBits_init) .none kV_NoBits_init dc_NoBits_init pm_NoBits_init an_NoBits_init cd_NoBits_init ct_NoBits_init), sl_NoBits_init⟩)
    (c_NoBits_init : PySem.W.codeIn K cd_NoBits_init "NoBits.__init__" = true)
    (k_NoBits_init : PySem.W.keepIn K (.ref f_NoBits_init) = true)
    (a_Nought_init : PySem.W.findIn K (.ref C_Nought) "__init__" = some (some (.ref f_Nought_init)))
    (l_Nought_init : K.lookup f_Nought_init = some ⟨oc_Nought_init, od_Nought_init, .func (PySem.W.fnOf "__init__" "Nought.__init__" (defArgs s_Nought_init) (defBody s_Nought_init) (defScope s_Nought_init) .none kV_Nought_init dc_Nought_init pm_Nought_init an_Nought_init cd_Nought_init ct_Nought_init), sl_Nought_init⟩)
    (c_Nought_init : PySem.W.codeIn K cd_Nought_init "Nought.__init__" = true)
    (k_Nought_init : PySem.W.keepIn K (.ref f_Nought_init) = true)
    (a_NoImage_init : PySem.W.findIn K (.ref C_NoImage) "__init__" = some (some (.ref f_NoImage_init)))
    (l_NoImage_init : K.lookup f_NoImage_init = some ⟨oc_NoImage_init, od_NoImage_init, .func (PySem.W.fnOf "__init__" "NoImage.__init__" (defArgs s_NoImage_init) (defBody s_NoImage_init) (defScope s_NoImage_init) .none kV_NoImage_init dc_NoImage_init pm_NoImage_init an_NoImage_init cd_NoImage_init ct_NoImage_init), sl_NoImage_init⟩)
    (c_NoImage_init : PySem.W.codeIn K cd_NoImage_init "NoImage.__init__" = true)
    (k_NoImage_init : PySem.W.keepIn K (.ref f_NoImage_init) = true)
    (a_NoText_init : PySem.W.findIn K (.ref C_NoText) "__init__" = some (some (.ref f_NoText_init)))
    (l_NoText_init : K.lookup f_NoText_init = some ⟨oc_NoText_init, od_NoText_init, .func (PySem.W.fnOf "__init__" "NoText.__init__" (defArgs s_NoText_init) (defBody s_NoText_init) (defScope s_NoText_init) .none kV_NoText_init dc_NoText_init pm_NoText_init an_NoText_init cd_NoText_init ct_NoText_init), sl_NoText_init⟩)
    (c_NoText_init : PySem.W.codeIn K cd_NoText_init "NoText.__init__" = true)
    (k_NoText_init : PySem.W.keepIn K (.ref f_NoText_init) = true)
    (a_NoStore_init : PySem.W.findIn K (.ref C_NoStore) "__init__" = some (some (.ref f_NoStore_init)))
    (l_NoStore_init : K.lookup f_NoStore_init = some ⟨oc_NoStore_init, od_NoStore_init, .func (PySem.W.fnOf "__init__" "NoStore.__init__" (defArgs s_NoStore_init) (defBody s_NoStore_init) (defScope s_NoStore_init) .none kV_NoStore_init dc_NoStore_init pm_NoStore_init an_NoStore_init cd_NoStore_init ct_NoStore_init), sl_NoStore_init⟩)
    (c_NoStore_init : PySem.W.codeIn K cd_NoStore_init "NoStore.__init__" = true)
    (k_NoStore_init : PySem.W.keepIn K (.ref f_NoStore_init) = true)
    (a_NoKind_init : PySem.W.findIn K (.ref C_NoKind) "__init__" = some (some (.ref f_NoKind_init)))
    (l_NoKind_init : K.lookup f_NoKind_init = some ⟨oc_NoKind_init, od_NoKind_init, .func (PySem.W.fnOf "__init__" "NoKind.__init__" (defArgs s_NoKind_init) (defBody s_NoKind_init) (defScope s_NoKind_init) .none kV_NoKind_init dc_NoKind_init pm_NoKind_init an_NoKind_init cd_NoKind_init ct_NoKind_init), sl_NoKind_init⟩)
    (c_NoKind_init : PySem.W.codeIn K cd_NoKind_init "NoKind.__init__" = true)
    (k_NoKind_init : PySem.W.keepIn K (.ref f_NoKind_init) = true)
    (a_NoLog_init : PySem.W.findIn K (.ref C_NoLog) "__init__" = some (some (.ref f_NoLog_init)))
    (l_NoLog_init : K.lookup f_NoLog_init = some ⟨oc_NoLog_init, od_NoLog_init, .func (PySem.W.fnOf "__init__" "NoLog.__init__" (defArgs s_NoLog_init) (defBody s_NoLog_init) (defScope s_NoLog_init) .none kV_NoLog_init dc_NoLog_init pm_NoLog_init an_NoLog_init cd_NoLog_init ct_NoLog_init), sl_NoLog_init⟩)
    (c_NoLog_init : PySem.W.codeIn K cd_NoLog_init "NoLog.__init__" = true)
    (k_NoLog_init : PySem.W.keepIn K (.ref f_NoLog_init) = true)
    (a_NoShare_init : PySem.W.findIn K (.ref C_NoShare) "__init__" = some (some (.ref f_NoShare_init)))
    (l_NoShare_init : K.lookup f_NoShare_init = some ⟨oc_NoShare_init, od_NoShare_init, .func (PySem.W.fnOf "__init__" "NoShare.__init__" (defArgs s_NoShare_init) (defBody s_NoShare_init) (defScope s_NoShare_init) .none kV_NoShare_init dc_NoShare_init pm_NoShare_init an_NoShare_init cd_NoShare_init ct_NoShare_init), sl_NoShare_init⟩)
    (c_NoShare_init : PySem.W.codeIn K cd_NoShare_init "NoShare.__init__" = true)
    (k_NoShare_init : PySem.W.keepIn K (.ref f_NoShare_init) = true)
    (a_NoSnapshot_init : PySem.W.findIn K (.ref C_NoSnapshot) "__init__" = some (some (.ref f_NoSnapshot_init)))
    (l_NoSnapshot_init : K.lookup f_NoSnapshot_init = some ⟨oc_NoSnapshot_init, od_NoSnapshot_init, .func (PySem.W.fnOf "__init__" "NoSnapshot.__init__" (defArgs s_NoSnapshot_init) (defBody s_NoSnapshot_init) (defScope s_NoSnapshot_init) .none kV_NoSnapshot_init dc_NoSnapshot_init pm_NoSnapshot_init an_NoSnapshot_init cd_NoSnapshot_init ct_NoSnapshot_init), sl_NoSnapshot_init⟩)
    (c_NoSnapshot_init : PySem.W.codeIn K cd_NoSnapshot_init "NoSnapshot.__init__" = true)
    (k_NoSnapshot_init : PySem.W.keepIn K (.ref f_NoSnapshot_init) = true)
    (a_NoHouse_init : PySem.W.findIn K (.ref C_NoHouse) "__init__" = some (some (.ref f_NoHouse_init)))
    (l_NoHouse_init : K.lookup f_NoHouse_init = some ⟨oc_NoHouse_init, od_NoHouse_init, .func (PySem.W.fnOf "__init__" "NoHouse.__init__" (defArgs s_NoHouse_init) (defBody s_NoHouse_init) (defScope s_NoHouse_init) .none kV_NoHouse_init dc_NoHouse_init pm_NoHouse_init an_NoHouse_init cd_NoHouse_init ct_NoHouse_init), sl_NoHouse_init⟩)
    (c_NoHouse_init : PySem.W.codeIn K cd_NoHouse_init "NoHouse.__init__" = true)
    (k_NoHouse_init : PySem.W.keepIn K (.ref f_NoHouse_init) = true)
    (a_NoDeed_init : PySem.W.findIn K (.ref C_NoDeed) "__init__" = some (some (.ref f_NoDeed_init)))
    (l_NoDeed_init : K.lookup f_NoDeed_init = some ⟨oc_NoDeed_init, od_NoDeed_init, .func (PySem.W.fnOf "__init__" "NoDeed.__init__" (defArgs s_NoDeed_init) (defBody s_NoDeed_init) (defScope s_NoDeed_init) .none kV_NoDeed_init dc_NoDeed_init pm_NoDeed_init an_NoDeed_init cd_NoDeed_init ct_NoDeed_init), sl_NoDeed_init⟩)
    (c_NoDeed_init : PySem.W.codeIn K cd_NoDeed_init "NoDeed.__init__" = true)
    (k_NoDeed_init : PySem.W.keepIn K (.ref f_NoDeed_init) = true)
    (a_NoWorld_init : PySem.W.findIn K (.ref C_NoWorld) "__init__" = some (some (.ref f_NoWorld_init)))
    (l_NoWorld_init : K.lookup f_NoWorld_init = some ⟨oc_NoWorld_init, od_NoWorld_init, .func (PySem.W.fnOf "__init__" "NoWorld.__init__" (defArgs s_NoWorld_init) (defBody s_NoWorld_init) (defScope s_NoWorld_init) .none kV_NoWorld_init dc_NoWorld_init pm_NoWorld_init an_NoWorld_init cd_NoWorld_init ct_NoWorld_init), sl_NoWorld_init⟩)
    (c_NoWorld_init : PySem.W.codeIn K cd_NoWorld_init "NoWorld.__init__" = true)
    (k_NoWorld_init : PySem.W.keepIn K (.ref f_NoWorld_init) = true)
    (a_NoPaper_init : PySem.W.findIn K (.ref C_NoPaper) "__init__" = some (some (.ref f_NoPaper_init)))
    (l_NoPaper_init : K.lookup f_NoPaper_init = some ⟨oc_NoPaper_init, od_NoPaper_init, .func (PySem.W.fnOf "__init__" "NoPaper.__init__" (defArgs s_NoPaper_init) (defBody s_NoPaper_init) (defScope s_NoPaper_init) .none kV_NoPaper_init dc_NoPaper_init pm_NoPaper_init an_NoPaper_init cd_NoPaper_init ct_NoPaper_init), sl_NoPaper_init⟩)
    (c_NoPaper_init : PySem.W.codeIn K cd_NoPaper_init "NoPaper.__init__" = true)
    (k_NoPaper_init : PySem.W.keepIn K (.ref f_NoPaper_init) = true)
    (a_NoLine_init : PySem.W.findIn K (.ref C_NoLine) "__init__" = some (some (.ref f_NoLine_init)))
    (l_NoLine_init : K.lookup f_NoLine_init = some ⟨oc_NoLine_init, od_NoLine_init, .func (PySem.W.fnOf "__init__" "NoLine.__init__" (defArgs s_NoLine_init) (defBody s_NoLine_init) (defScope s_NoLine_init) .none kV_NoLine_init dc_NoLine_init pm_NoLine_init an_NoLine_init cd_NoLine_init ct_NoLine_init), sl_NoLine_init⟩)
    (c_NoLine_init : PySem.W.codeIn K cd_NoLine_init "NoLine.__init__" = true)
    (k_NoLine_init : PySem.W.keepIn K (.ref f_NoLine_init) = true)
    (a_Doubled_init : PySem.W.findIn K (.ref C_Doubled) "__init__" = some (some (.ref f_Doubled_init)))
    (l_Doubled_init : K.lookup f_Doubled_init = some ⟨oc_Doubled_init, od_Doubled_init, .func (PySem.W.fnOf "__init__" "Doubled.__init__" (defArgs s_Doubled_init) (defBody s_Doubled_init) (defScope s_Doubled_init) .none kV_Doubled_init dc_Doubled_init pm_Doubled_init an_Doubled_init cd_Doubled_init ct_Doubled_init), sl_Doubled_init⟩)
    (c_Doubled_init : PySem.W.codeIn K cd_Doubled_init "Doubled.__init__" = true)
    (k_Doubled_init : PySem.W.keepIn K (.ref f_Doubled_init) = true)
    (a_NoRow_init : PySem.W.findIn K (.ref C_NoRow) "__init__" = some (some (.ref f_NoRow_init)))
    (l_NoRow_init : K.lookup f_NoRow_init = some ⟨oc_NoRow_init, od_NoRow_init, .func (PySem.W.fnOf "__init__" "NoRow.__init__" (defArgs s_NoRow_init) (defBody s_NoRow_init) (defScope s_NoRow_init) .none kV_NoRow_init dc_NoRow_init pm_NoRow_init an_NoRow_init cd_NoRow_init ct_NoRow_init), sl_NoRow_init⟩)
    (c_NoRow_init : PySem.W.codeIn K cd_NoRow_init "NoRow.__init__" = true)
    (k_NoRow_init : PySem.W.keepIn K (.ref f_NoRow_init) = true)
    (a_TooMuch_init : PySem.W.findIn K (.ref C_TooMuch) "__init__" = some (some (.ref f_TooMuch_init)))
    (l_TooMuch_init : K.lookup f_TooMuch_init = some ⟨oc_TooMuch_init, od_TooMuch_init, .func (PySem.W.fnOf "__init__" "TooMuch.__init__" (defArgs s_TooMuch_init) (defBody s_TooMuch_init) (defScope s_TooMuch_init) .none kV_TooMuch_init dc_TooMuch_init pm_TooMuch_init an_TooMuch_init cd_TooMuch_init ct_TooMuch_init), sl_TooMuch_init⟩)
    (c_TooMuch_init : PySem.W.codeIn K cd_TooMuch_init "TooMuch.__init__" = true)
    (k_TooMuch_init : PySem.W.keepIn K (.ref f_TooMuch_init) = true)
    (a_NoGuest_init : PySem.W.findIn K (.ref C_NoGuest) "__init__" = some (some (.ref f_NoGuest_init)))
    (l_NoGuest_init : K.lookup f_NoGuest_init = some ⟨oc_NoGuest_init, od_NoGuest_init, .func (PySem.W.fnOf "__init__" "NoGuest.__init__" (defArgs s_NoGuest_init) (defBody s_NoGuest_init) (defScope s_NoGuest_init) .none kV_NoGuest_init dc_NoGuest_init pm_NoGuest_init an_NoGuest_init cd_NoGuest_init ct_NoGuest_init), sl_NoGuest_init⟩)
    (c_NoGuest_init : PySem.W.codeIn K cd_NoGuest_init "NoGuest.__init__" = true)
    (k_NoGuest_init : PySem.W.keepIn K (.ref f_NoGuest_init) = true)
    (a_NoAsk_init : PySem.W.findIn K (.ref C_NoAsk) "__init__" = some (some (.ref f_NoAsk_init)))
    (l_NoAsk_init : K.lookup f_NoAsk_init = some ⟨oc_NoAsk_init, od_NoAsk_init, .func (PySem.W.fnOf "__init__" "NoAsk.__init__" (defArgs s_NoAsk_init) (defBody s_NoAsk_init) (defScope s_NoAsk_init) .none kV_NoAsk_init dc_NoAsk_init pm_NoAsk_init an_NoAsk_init cd_NoAsk_init ct_NoAsk_init), sl_NoAsk_init⟩)
    (c_NoAsk_init : PySem.W.codeIn K cd_NoAsk_init "NoAsk.__init__" = true)
    (k_NoAsk_init : PySem.W.keepIn K (.ref f_NoAsk_init) = true)
    (a_NotOnRoad_init : PySem.W.findIn K (.ref C_NotOnRoad) "__init__" = some (some (.ref f_NotOnRoad_init)))
    (l_NotOnRoad_init : K.lookup f_NotOnRoad_init = some ⟨oc_NotOnRoad_init, od_NotOnRoad_init, .func (PySem.W.fnOf "__init__" "NotOnRoad.__init__" (defArgs s_NotOnRoad_init) (defBody s_NotOnRoad_init) (defScope s_NotOnRoad_init) .none kV_NotOnRoad_init dc_NotOnRoad_init pm_NotOnRoad_init an_NotOnRoad_init cd_NotOnRoad_init ct_NotOnRoad_init), sl_NotOnRoad_init⟩)
    (c_NotOnRoad_init : PySem.W.codeIn K cd_NotOnRoad_init "NotOnRoad.__init__" = true)
    (k_NotOnRoad_init : PySem.W.keepIn K (.ref f_NotOnRoad_init) = true)
    (a_NotKept_init : PySem.W.findIn K (.ref C_NotKept) "__init__" = some (some (.ref f_NotKept_init)))
    (l_NotKept_init : K.lookup f_NotKept_init = some ⟨oc_NotKept_init, od_NotKept_init, .func (PySem.W.fnOf "__init__" "NotKept.__init__" (defArgs s_NotKept_init) (defBody s_NotKept_init) (defScope s_NotKept_init) .none kV_NotKept_init dc_NotKept_init pm_NotKept_init an_NotKept_init cd_NotKept_init ct_NotKept_init), sl_NotKept_init⟩)
    (c_NotKept_init : PySem.W.codeIn K cd_NotKept_init "NotKept.__init__" = true)
    (k_NotKept_init : PySem.W.keepIn K (.ref f_NotKept_init) = true)
    (a_Ended_init : PySem.W.findIn K (.ref C_Ended) "__init__" = some (some (.ref f_Ended_init)))
    (l_Ended_init : K.lookup f_Ended_init = some ⟨oc_Ended_init, od_Ended_init, .func (PySem.W.fnOf "__init__" "Ended.__init__" (defArgs s_Ended_init) (defBody s_Ended_init) (defScope s_Ended_init) .none kV_Ended_init dc_Ended_init pm_Ended_init an_Ended_init cd_Ended_init ct_Ended_init), sl_Ended_init⟩)
    (c_Ended_init : PySem.W.codeIn K cd_Ended_init "Ended.__init__" = true)
    (k_Ended_init : PySem.W.keepIn K (.ref f_Ended_init) = true)
    (a_Moving_init : PySem.W.findIn K (.ref C_Moving) "__init__" = some (some (.ref f_Moving_init)))
    (l_Moving_init : K.lookup f_Moving_init = some ⟨oc_Moving_init, od_Moving_init, .func (PySem.W.fnOf "__init__" "Moving.__init__" (defArgs s_Moving_init) (defBody s_Moving_init) (defScope s_Moving_init) .none kV_Moving_init dc_Moving_init pm_Moving_init an_Moving_init cd_Moving_init ct_Moving_init), sl_Moving_init⟩)
    (c_Moving_init : PySem.W.codeIn K cd_Moving_init "Moving.__init__" = true)
    (k_Moving_init : PySem.W.keepIn K (.ref f_Moving_init) = true)
    (a_NotMoving_init : PySem.W.findIn K (.ref C_NotMoving) "__init__" = some (some (.ref f_NotMoving_init)))
    (l_NotMoving_init : K.lookup f_NotMoving_init = some ⟨oc_NotMoving_init, od_NotMoving_init, .func (PySem.W.fnOf "__init__" "NotMoving.__init__" (defArgs s_NotMoving_init) (defBody s_NotMoving_init) (defScope s_NotMoving_init) .none kV_NotMoving_init dc_NotMoving_init pm_NotMoving_init an_NotMoving_init cd_NotMoving_init ct_NotMoving_init), sl_NotMoving_init⟩)
    (c_NotMoving_init : PySem.W.codeIn K cd_NotMoving_init "NotMoving.__init__" = true)
    (k_NotMoving_init : PySem.W.keepIn K (.ref f_NotMoving_init) = true)
    (a_Fallen_init : PySem.W.findIn K (.ref C_Fallen) "__init__" = some (some (.ref f_Fallen_init)))
    (l_Fallen_init : K.lookup f_Fallen_init = some ⟨oc_Fallen_init, od_Fallen_init, .func (PySem.W.fnOf "__init__" "Fallen.__init__" (defArgs s_Fallen_init) (defBody s_Fallen_init) (defScope s_Fallen_init) .none kV_Fallen_init dc_Fallen_init pm_Fallen_init an_Fallen_init cd_Fallen_init ct_Fallen_init), sl_Fallen_init⟩)
    (c_Fallen_init : PySem.W.codeIn K cd_Fallen_init "Fallen.__init__" = true)
    (k_Fallen_init : PySem.W.keepIn K (.ref f_Fallen_init) = true)
    (a_Standing_init : PySem.W.findIn K (.ref C_Standing) "__init__" = some (some (.ref f_Standing_init)))
    (l_Standing_init : K.lookup f_Standing_init = some ⟨oc_Standing_init, od_Standing_init, .func (PySem.W.fnOf "__init__" "Standing.__init__" (defArgs s_Standing_init) (defBody s_Standing_init) (defScope s_Standing_init) .none kV_Standing_init dc_Standing_init pm_Standing_init an_Standing_init cd_Standing_init ct_Standing_init), sl_Standing_init⟩)
    (c_Standing_init : PySem.W.codeIn K cd_Standing_init "Standing.__init__" = true)
    (k_Standing_init : PySem.W.keepIn K (.ref f_Standing_init) = true)
    (a_Full_init : PySem.W.findIn K (.ref C_Full) "__init__" = some (some (.ref f_Full_init)))
    (l_Full_init : K.lookup f_Full_init = some ⟨oc_Full_init, od_Full_init, .func (PySem.W.fnOf "__init__" "Full.__init__" (defArgs s_Full_init) (defBody s_Full_init) (defScope s_Full_init) .none kV_Full_init dc_Full_init pm_Full_init an_Full_init cd_Full_init ct_Full_init), sl_Full_init⟩)
    (c_Full_init : PySem.W.codeIn K cd_Full_init "Full.__init__" = true)
    (k_Full_init : PySem.W.keepIn K (.ref f_Full_init) = true)
    (a_Parted_init : PySem.W.findIn K (.ref C_Parted) "__init__" = some (some (.ref f_Parted_init)))
    (l_Parted_init : K.lookup f_Parted_init = some ⟨oc_Parted_init, od_Parted_init, .func (PySem.W.fnOf "__init__" "Parted.__init__" (defArgs s_Parted_init) (defBody s_Parted_init) (defScope s_Parted_init) .none kV_Parted_init dc_Parted_init pm_Parted_init an_Parted_init cd_Parted_init ct_Parted_init), sl_Parted_init⟩)
    (c_Parted_init : PySem.W.codeIn K cd_Parted_init "Parted.__init__" = true)
    (k_Parted_init : PySem.W.keepIn K (.ref f_Parted_init) = true)
    (a_Over_init : PySem.W.findIn K (.ref C_Over) "__init__" = some (some (.ref f_Over_init)))
    (l_Over_init : K.lookup f_Over_init = some ⟨oc_Over_init, od_Over_init, .func (PySem.W.fnOf "__init__" "Over.__init__" (defArgs s_Over_init) (defBody s_Over_init) (defScope s_Over_init) .none kV_Over_init dc_Over_init pm_Over_init an_Over_init cd_Over_init ct_Over_init), sl_Over_init⟩)
    (c_Over_init : PySem.W.codeIn K cd_Over_init "Over.__init__" = true)
    (k_Over_init : PySem.W.keepIn K (.ref f_Over_init) = true)
    (a_cell_L : PySem.W.nsIn K mainGlobals "_law_cell" = some (some (.ref f_cell_L)))
    (l_cell_L : K.lookup f_cell_L = some ⟨oc_cell_L, od_cell_L, .func (PySem.W.fnOf "_law_cell" "_law_cell" (defArgs s_cell_L) (defBody s_cell_L) (defScope s_cell_L) .none kV_cell_L dc_cell_L pm_cell_L an_cell_L cd_cell_L ct_cell_L), sl_cell_L⟩)
    (c_cell_L : PySem.W.codeIn K cd_cell_L "_law_cell" = true)
    (k_cell_L : PySem.W.keepIn K (.ref f_cell_L) = true)
    (a_box_L : PySem.W.nsIn K mainGlobals "_law_box" = some (some (.ref f_box_L)))
    (l_box_L : K.lookup f_box_L = some ⟨oc_box_L, od_box_L, .func (PySem.W.fnOf "_law_box" "_law_box" (defArgs s_box_L) (defBody s_box_L) (defScope s_box_L) .none kV_box_L dc_box_L pm_box_L an_box_L cd_box_L ct_box_L), sl_box_L⟩)
    (c_box_L : PySem.W.codeIn K cd_box_L "_law_box" = true)
    (k_box_L : PySem.W.keepIn K (.ref f_box_L) = true)
    (a_take_L : PySem.W.nsIn K mainGlobals "_law_take" = some (some (.ref f_take_L)))
    (l_take_L : K.lookup f_take_L = some ⟨oc_take_L, od_take_L, .func (PySem.W.fnOf "_law_take" "_law_take" (defArgs s_take_L) (defBody s_take_L) (defScope s_take_L) .none kV_take_L dc_take_L pm_take_L an_take_L cd_take_L ct_take_L), sl_take_L⟩)
    (c_take_L : PySem.W.codeIn K cd_take_L "_law_take" = true)
    (k_take_L : PySem.W.keepIn K (.ref f_take_L) = true)
    (a_thing_L : PySem.W.nsIn K mainGlobals "_law_thing" = some (some (.ref f_thing_L)))
    (l_thing_L : K.lookup f_thing_L = some ⟨oc_thing_L, od_thing_L, .func (PySem.W.fnOf "_law_thing" "_law_thing" (defArgs s_thing_L) (defBody s_thing_L) (defScope s_thing_L) .none kV_thing_L dc_thing_L pm_thing_L an_thing_L cd_thing_L ct_thing_L), sl_thing_L⟩)
    (c_thing_L : PySem.W.codeIn K cd_thing_L "_law_thing" = true)
    (k_thing_L : PySem.W.keepIn K (.ref f_thing_L) = true)
    (a_by_place_L : PySem.W.nsIn K mainGlobals "_law_by_place" = some (some (.ref f_by_place_L)))
    (l_by_place_L : K.lookup f_by_place_L = some ⟨oc_by_place_L, od_by_place_L, .func (PySem.W.fnOf "_law_by_place" "_law_by_place" (defArgs s_by_place_L) (defBody s_by_place_L) (defScope s_by_place_L) .none kV_by_place_L dc_by_place_L pm_by_place_L an_by_place_L cd_by_place_L ct_by_place_L), sl_by_place_L⟩)
    (c_by_place_L : PySem.W.codeIn K cd_by_place_L "_law_by_place" = true)
    (k_by_place_L : PySem.W.keepIn K (.ref f_by_place_L) = true)
    (a_by_place_more_L : PySem.W.nsIn K mainGlobals "_law_by_place_more" = some (some (.ref f_by_place_more_L)))
    (l_by_place_more_L : K.lookup f_by_place_more_L = some ⟨oc_by_place_more_L, od_by_place_more_L, .func (PySem.W.fnOf "_law_by_place_more" "_law_by_place_more" (defArgs s_by_place_more_L) (defBody s_by_place_more_L) (defScope s_by_place_more_L) .none kV_by_place_more_L dc_by_place_more_L pm_by_place_more_L an_by_place_more_L cd_by_place_more_L ct_by_place_more_L), sl_by_place_more_L⟩)
    (c_by_place_more_L : PySem.W.codeIn K cd_by_place_more_L "_law_by_place_more" = true)
    (k_by_place_more_L : PySem.W.keepIn K (.ref f_by_place_more_L) = true)
    (a_by_name_L : PySem.W.nsIn K mainGlobals "_law_by_name" = some (some (.ref f_by_name_L)))
    (l_by_name_L : K.lookup f_by_name_L = some ⟨oc_by_name_L, od_by_name_L, .func (PySem.W.fnOf "_law_by_name" "_law_by_name" (defArgs s_by_name_L) (defBody s_by_name_L) (defScope s_by_name_L) .none kV_by_name_L dc_by_name_L pm_by_name_L an_by_name_L cd_by_name_L ct_by_name_L), sl_by_name_L⟩)
    (c_by_name_L : PySem.W.codeIn K cd_by_name_L "_law_by_name" = true)
    (k_by_name_L : PySem.W.keepIn K (.ref f_by_name_L) = true)
    (a_by_name_more_L : PySem.W.nsIn K mainGlobals "_law_by_name_more" = some (some (.ref f_by_name_more_L)))
    (l_by_name_more_L : K.lookup f_by_name_more_L = some ⟨oc_by_name_more_L, od_by_name_more_L, .func (PySem.W.fnOf "_law_by_name_more" "_law_by_name_more" (defArgs s_by_name_more_L) (defBody s_by_name_more_L) (defScope s_by_name_more_L) .none kV_by_name_more_L dc_by_name_more_L pm_by_name_more_L an_by_name_more_L cd_by_name_more_L ct_by_name_more_L), sl_by_name_more_L⟩)
    (c_by_name_more_L : PySem.W.codeIn K cd_by_name_more_L "_law_by_name_more" = true)
    (k_by_name_more_L : PySem.W.keepIn K (.ref f_by_name_more_L) = true)
    (a_classes_L : PySem.W.nsIn K mainGlobals "_law_classes" = some (some (.ref f_classes_L)))
    (l_classes_L : K.lookup f_classes_L = some ⟨oc_classes_L, od_classes_L, .func (PySem.W.fnOf "_law_classes" "_law_classes" (defArgs s_classes_L) (defBody s_classes_L) (defScope s_classes_L) .none kV_classes_L dc_classes_L pm_classes_L an_classes_L cd_classes_L ct_classes_L), sl_classes_L⟩)
    (c_classes_L : PySem.W.codeIn K cd_classes_L "_law_classes" = true)
    (k_classes_L : PySem.W.keepIn K (.ref f_classes_L) = true)
    (a_families_L : PySem.W.nsIn K mainGlobals "_law_families" = some (some (.ref f_families_L)))
    (l_families_L : K.lookup f_families_L = some ⟨oc_families_L, od_families_L, .func (PySem.W.fnOf "_law_families" "_law_families" (defArgs s_families_L) (defBody s_families_L) (defScope s_families_L) .none kV_families_L dc_families_L pm_families_L an_families_L cd_families_L ct_families_L), sl_families_L⟩)
    (c_families_L : PySem.W.codeIn K cd_families_L "_law_families" = true)
    (k_families_L : PySem.W.keepIn K (.ref f_families_L) = true)
    (a_due_families_L : PySem.W.nsIn K mainGlobals "_law_due_families" = some (some (.ref f_due_families_L)))
    (l_due_families_L : K.lookup f_due_families_L = some ⟨oc_due_families_L, od_due_families_L, .func (PySem.W.fnOf "_law_due_families" "_law_due_families" (defArgs s_due_families_L) (defBody s_due_families_L) (defScope s_due_families_L) .none kV_due_families_L dc_due_families_L pm_due_families_L an_due_families_L cd_due_families_L ct_due_families_L), sl_due_families_L⟩)
    (c_due_families_L : PySem.W.codeIn K cd_due_families_L "_law_due_families" = true)
    (k_due_families_L : PySem.W.keepIn K (.ref f_due_families_L) = true)
    (a_field_L : PySem.W.nsIn K mainGlobals "_law_field" = some (some (.ref f_field_L)))
    (l_field_L : K.lookup f_field_L = some ⟨oc_field_L, od_field_L, .func (PySem.W.fnOf "_law_field" "_law_field" (defArgs s_field_L) (defBody s_field_L) (defScope s_field_L) .none kV_field_L dc_field_L pm_field_L an_field_L cd_field_L ct_field_L), sl_field_L⟩)
    (c_field_L : PySem.W.codeIn K cd_field_L "_law_field" = true)
    (k_field_L : PySem.W.keepIn K (.ref f_field_L) = true)
    (a_grown_L : PySem.W.nsIn K mainGlobals "_law_grown" = some (some (.ref f_grown_L)))
    (l_grown_L : K.lookup f_grown_L = some ⟨oc_grown_L, od_grown_L, .func (PySem.W.fnOf "_law_grown" "_law_grown" (defArgs s_grown_L) (defBody s_grown_L) (defScope s_grown_L) .none kV_grown_L dc_grown_L pm_grown_L an_grown_L cd_grown_L ct_grown_L), sl_grown_L⟩)
    (c_grown_L : PySem.W.codeIn K cd_grown_L "_law_grown" = true)
    (k_grown_L : PySem.W.keepIn K (.ref f_grown_L) = true)
    (a_right_L : PySem.W.nsIn K mainGlobals "_law_right" = some (some (.ref f_right_L)))
    (l_right_L : K.lookup f_right_L = some ⟨oc_right_L, od_right_L, .func (PySem.W.fnOf "_law_right" "_law_right" (defArgs s_right_L) (defBody s_right_L) (defScope s_right_L) .none kV_right_L dc_right_L pm_right_L an_right_L cd_right_L ct_right_L), sl_right_L⟩)
    (c_right_L : PySem.W.codeIn K cd_right_L "_law_right" = true)
    (k_right_L : PySem.W.keepIn K (.ref f_right_L) = true)
    (a_two_right_L : PySem.W.nsIn K mainGlobals "_law_two_right" = some (some (.ref f_two_right_L)))
    (l_two_right_L : K.lookup f_two_right_L = some ⟨oc_two_right_L, od_two_right_L, .func (PySem.W.fnOf "_law_two_right" "_law_two_right" (defArgs s_two_right_L) (defBody s_two_right_L) (defScope s_two_right_L) .none kV_two_right_L dc_two_right_L pm_two_right_L an_two_right_L cd_two_right_L ct_two_right_L), sl_two_right_L⟩)
    (c_two_right_L : PySem.W.codeIn K cd_two_right_L "_law_two_right" = true)
    (k_two_right_L : PySem.W.keepIn K (.ref f_two_right_L) = true)
    (a_base_L : PySem.W.nsIn K mainGlobals "_law_base" = some (some (.ref f_base_L)))
    (l_base_L : K.lookup f_base_L = some ⟨oc_base_L, od_base_L, .func (PySem.W.fnOf "_law_base" "_law_base" (defArgs s_base_L) (defBody s_base_L) (defScope s_base_L) .none kV_base_L dc_base_L pm_base_L an_base_L cd_base_L ct_base_L), sl_base_L⟩)
    (c_base_L : PySem.W.codeIn K cd_base_L "_law_base" = true)
    (k_base_L : PySem.W.keepIn K (.ref f_base_L) = true)
    (a_law : PySem.W.nsIn K mainGlobals "law" = some (some (.ref f_law)))
    (l_law : K.lookup f_law = some ⟨oc_law, od_law, .func (PySem.W.fnOf "law" "law" (defArgs s_law) (defBody s_law) (defScope s_law) .none kV_law dc_law pm_law an_law cd_law ct_law), sl_law⟩)
    (c_law : PySem.W.codeIn K cd_law "law" = true)
    (k_law : PySem.W.keepIn K (.ref f_law) = true)
    (rd_GuestError : PySem.W.readsIn K C_GuestError (.type "type") = true)
    (ga_GuestError : PySem.W.specialIn K (.ref C_GuestError) "__getattribute__" = some (some (.builtin "type.__getattribute__")))
    (at_GuestError : PySem.W.findCls K (.ref C_GuestError) (.type "type") "__init__" = some (.val (.ref f_GuestError_init)))
    (v_ValueError : PySem.W.findCls K (.type "ValueError") (.type "type") "__init__" = some (.val (.builtin "ValueError.__init__")))
    (rd_Missing : PySem.W.readsIn K C_Missing (.type "type") = true)
    (ga_Missing : PySem.W.specialIn K (.ref C_Missing) "__getattribute__" = some (some (.builtin "type.__getattribute__")))
    (at_Missing : PySem.W.findCls K (.ref C_Missing) (.type "type") "__init__" = some (.val (.ref f_Missing_init)))
    (v_KeyError : PySem.W.findCls K (.type "KeyError") (.type "type") "__init__" = some (.val (.builtin "KeyError.__init__")))
    (rd_Barred : PySem.W.readsIn K C_Barred (.type "type") = true)
    (ga_Barred : PySem.W.specialIn K (.ref C_Barred) "__getattribute__" = some (some (.builtin "type.__getattribute__")))
    (at_Barred : PySem.W.findCls K (.ref C_Barred) (.type "type") "__init__" = some (.val (.ref f_Barred_init)))
    (v_LookupError : PySem.W.findCls K (.type "LookupError") (.type "type") "__init__" = some (.val (.builtin "LookupError.__init__")))
    (nf32 : PySem.W.findIn K (.ref C_Parted) "found" = some none)
    (nf33 : PySem.W.findIn K (.ref C_Parted) "at" = some none)
    (hn : PySem.W.specialIn K (.builtin "object.__class__") "__get__" = some (some (.builtin "getset_descriptor.__get__")))
    (htk : PySem.W.takesIn K (.builtin "object.__class__") = some true)
    (xL_NoNumber : K.lookup C_NoNumber = some (excClassObj nmNoNumber qNoNumber C_NoNumber NNoNumber bsNoNumber [.ref C_GuestError, .type "ValueError", .type "Exception", .type "BaseException", .type "object"] true snNoNumber subNoNumber abNoNumber colNoNumber ddNoNumber wNoNumber0 wNoNumber1 wNoNumber2 wNoNumber3 wNoNumber5 "ValueError.__new__"))
    (xL_NoName : K.lookup C_NoName = some (excClassObj nmNoName qNoName C_NoName NNoName bsNoName [.ref C_GuestError, .type "ValueError", .type "Exception", .type "BaseException", .type "object"] true snNoName subNoName abNoName colNoName ddNoName wNoName0 wNoName1 wNoName2 wNoName3 wNoName5 "ValueError.__new__"))
    (xL_NoWord : K.lookup C_NoWord = some (excClassObj nmNoWord qNoWord C_NoWord NNoWord bsNoWord [.ref C_GuestError, .type "ValueError", .type "Exception", .type "BaseException", .type "object"] true snNoWord subNoWord abNoWord colNoWord ddNoWord wNoWord0 wNoWord1 wNoWord2 wNoWord3 wNoWord5 "ValueError.__new__"))
    (xL_NoOp : K.lookup C_NoOp = some (excClassObj nmNoOp qNoOp C_NoOp NNoOp bsNoOp [.ref C_GuestError, .type "ValueError", .type "Exception", .type "BaseException", .type "object"] true snNoOp subNoOp abNoOp colNoOp ddNoOp wNoOp0 wNoOp1 wNoOp2 wNoOp3 wNoOp5 "ValueError.__new__"))
    (xL_NoTruth : K.lookup C_NoTruth = some (excClassObj nmNoTruth qNoTruth C_NoTruth NNoTruth bsNoTruth [.ref C_GuestError, .type "ValueError", .type "Exception", .type "BaseException", .type "object"] true snNoTruth subNoTruth abNoTruth colNoTruth ddNoTruth wNoTruth0 wNoTruth1 wNoTruth2 wNoTruth3 wNoTruth5 "ValueError.__new__"))
    (xL_NoBits : K.lookup C_NoBits = some (excClassObj nmNoBits qNoBits C_NoBits NNoBits bsNoBits [.ref C_GuestError, .type "ValueError", .type "Exception", .type "BaseException", .type "object"] true snNoBits subNoBits abNoBits colNoBits ddNoBits wNoBits0 wNoBits1 wNoBits2 wNoBits3 wNoBits5 "ValueError.__new__"))
    (xL_Nought : K.lookup C_Nought = some (excClassObj nmNought qNought C_Nought NNought bsNought [.ref C_GuestError, .type "ValueError", .type "Exception", .type "BaseException", .type "object"] true snNought subNought abNought colNought ddNought wNought0 wNought1 wNought2 wNought3 wNought5 "ValueError.__new__"))
    (xL_NoImage : K.lookup C_NoImage = some (excClassObj nmNoImage qNoImage C_NoImage NNoImage bsNoImage [.ref C_GuestError, .type "ValueError", .type "Exception", .type "BaseException", .type "object"] true snNoImage subNoImage abNoImage colNoImage ddNoImage wNoImage0 wNoImage1 wNoImage2 wNoImage3 wNoImage5 "ValueError.__new__"))
    (xL_NoText : K.lookup C_NoText = some (excClassObj nmNoText qNoText C_NoText NNoText bsNoText [.ref C_GuestError, .type "ValueError", .type "Exception", .type "BaseException", .type "object"] true snNoText subNoText abNoText colNoText ddNoText wNoText0 wNoText1 wNoText2 wNoText3 wNoText5 "ValueError.__new__"))
    (xL_NoRow : K.lookup C_NoRow = some (excClassObj nmNoRow qNoRow C_NoRow NNoRow bsNoRow [.ref C_GuestError, .type "ValueError", .type "Exception", .type "BaseException", .type "object"] true snNoRow subNoRow abNoRow colNoRow ddNoRow wNoRow0 wNoRow1 wNoRow2 wNoRow3 wNoRow5 "ValueError.__new__"))
    (xL_NoStore : K.lookup C_NoStore = some (excClassObj nmNoStore qNoStore C_NoStore NNoStore bsNoStore [.ref C_GuestError, .type "ValueError", .type "Exception", .type "BaseException", .type "object"] true snNoStore subNoStore abNoStore colNoStore ddNoStore wNoStore0 wNoStore1 wNoStore2 wNoStore3 wNoStore5 "ValueError.__new__"))
    (xL_NoKind : K.lookup C_NoKind = some (excClassObj nmNoKind qNoKind C_NoKind NNoKind bsNoKind [.ref C_GuestError, .type "ValueError", .type "Exception", .type "BaseException", .type "object"] true snNoKind subNoKind abNoKind colNoKind ddNoKind wNoKind0 wNoKind1 wNoKind2 wNoKind3 wNoKind5 "ValueError.__new__"))
    (xL_NoLog : K.lookup C_NoLog = some (excClassObj nmNoLog qNoLog C_NoLog NNoLog bsNoLog [.ref C_GuestError, .type "ValueError", .type "Exception", .type "BaseException", .type "object"] true snNoLog subNoLog abNoLog colNoLog ddNoLog wNoLog0 wNoLog1 wNoLog2 wNoLog3 wNoLog5 "ValueError.__new__"))
    (xL_NoShare : K.lookup C_NoShare = some (excClassObj nmNoShare qNoShare C_NoShare NNoShare bsNoShare [.ref C_GuestError, .type "ValueError", .type "Exception", .type "BaseException", .type "object"] true snNoShare subNoShare abNoShare colNoShare ddNoShare wNoShare0 wNoShare1 wNoShare2 wNoShare3 wNoShare5 "ValueError.__new__"))
    (xL_NoSnapshot : K.lookup C_NoSnapshot = some (excClassObj nmNoSnapshot qNoSnapshot C_NoSnapshot NNoSnapshot bsNoSnapshot [.ref C_GuestError, .type "ValueError", .type "Exception", .type "BaseException", .type "object"] true snNoSnapshot subNoSnapshot abNoSnapshot colNoSnapshot ddNoSnapshot wNoSnapshot0 wNoSnapshot1 wNoSnapshot2 wNoSnapshot3 wNoSnapshot5 "ValueError.__new__"))
    (xL_NoHouse : K.lookup C_NoHouse = some (excClassObj nmNoHouse qNoHouse C_NoHouse NNoHouse bsNoHouse [.ref C_GuestError, .type "ValueError", .type "Exception", .type "BaseException", .type "object"] true snNoHouse subNoHouse abNoHouse colNoHouse ddNoHouse wNoHouse0 wNoHouse1 wNoHouse2 wNoHouse3 wNoHouse5 "ValueError.__new__"))
    (xL_NoDeed : K.lookup C_NoDeed = some (excClassObj nmNoDeed qNoDeed C_NoDeed NNoDeed bsNoDeed [.ref C_GuestError, .type "ValueError", .type "Exception", .type "BaseException", .type "object"] true snNoDeed subNoDeed abNoDeed colNoDeed ddNoDeed wNoDeed0 wNoDeed1 wNoDeed2 wNoDeed3 wNoDeed5 "ValueError.__new__"))
    (xL_NoWorld : K.lookup C_NoWorld = some (excClassObj nmNoWorld qNoWorld C_NoWorld NNoWorld bsNoWorld [.ref C_GuestError, .type "ValueError", .type "Exception", .type "BaseException", .type "object"] true snNoWorld subNoWorld abNoWorld colNoWorld ddNoWorld wNoWorld0 wNoWorld1 wNoWorld2 wNoWorld3 wNoWorld5 "ValueError.__new__"))
    (xL_NoPaper : K.lookup C_NoPaper = some (excClassObj nmNoPaper qNoPaper C_NoPaper NNoPaper bsNoPaper [.ref C_GuestError, .type "ValueError", .type "Exception", .type "BaseException", .type "object"] true snNoPaper subNoPaper abNoPaper colNoPaper ddNoPaper wNoPaper0 wNoPaper1 wNoPaper2 wNoPaper3 wNoPaper5 "ValueError.__new__"))
    (xL_NoLine : K.lookup C_NoLine = some (excClassObj nmNoLine qNoLine C_NoLine NNoLine bsNoLine [.ref C_GuestError, .type "ValueError", .type "Exception", .type "BaseException", .type "object"] true snNoLine subNoLine abNoLine colNoLine ddNoLine wNoLine0 wNoLine1 wNoLine2 wNoLine3 wNoLine5 "ValueError.__new__"))
    (xL_Doubled : K.lookup C_Doubled = some (excClassObj nmDoubled qDoubled C_Doubled NDoubled bsDoubled [.ref C_GuestError, .type "ValueError", .type "Exception", .type "BaseException", .type "object"] true snDoubled subDoubled abDoubled colDoubled ddDoubled wDoubled0 wDoubled1 wDoubled2 wDoubled3 wDoubled5 "ValueError.__new__"))
    (xL_TooMuch : K.lookup C_TooMuch = some (excClassObj nmTooMuch qTooMuch C_TooMuch NTooMuch bsTooMuch [.ref C_GuestError, .type "ValueError", .type "Exception", .type "BaseException", .type "object"] true snTooMuch subTooMuch abTooMuch colTooMuch ddTooMuch wTooMuch0 wTooMuch1 wTooMuch2 wTooMuch3 wTooMuch5 "ValueError.__new__"))
    (xL_NoGuest : K.lookup C_NoGuest = some (excClassObj nmNoGuest qNoGuest C_NoGuest NNoGuest bsNoGuest [.ref C_Missing, .type "KeyError", .type "LookupError", .type "Exception", .type "BaseException", .type "object"] true snNoGuest subNoGuest abNoGuest colNoGuest ddNoGuest wNoGuest0 wNoGuest1 wNoGuest2 wNoGuest3 wNoGuest5 "LookupError.__new__"))
    (xL_NoAsk : K.lookup C_NoAsk = some (excClassObj nmNoAsk qNoAsk C_NoAsk NNoAsk bsNoAsk [.ref C_Missing, .type "KeyError", .type "LookupError", .type "Exception", .type "BaseException", .type "object"] true snNoAsk subNoAsk abNoAsk colNoAsk ddNoAsk wNoAsk0 wNoAsk1 wNoAsk2 wNoAsk3 wNoAsk5 "LookupError.__new__"))
    (xL_NotOnRoad : K.lookup C_NotOnRoad = some (excClassObj nmNotOnRoad qNotOnRoad C_NotOnRoad NNotOnRoad bsNotOnRoad [.ref C_Missing, .type "KeyError", .type "LookupError", .type "Exception", .type "BaseException", .type "object"] true snNotOnRoad subNotOnRoad abNotOnRoad colNotOnRoad ddNotOnRoad wNotOnRoad0 wNotOnRoad1 wNotOnRoad2 wNotOnRoad3 wNotOnRoad5 "LookupError.__new__"))
    (xL_NotKept : K.lookup C_NotKept = some (excClassObj nmNotKept qNotKept C_NotKept NNotKept bsNotKept [.ref C_Missing, .type "KeyError", .type "LookupError", .type "Exception", .type "BaseException", .type "object"] true snNotKept subNotKept abNotKept colNotKept ddNotKept wNotKept0 wNotKept1 wNotKept2 wNotKept3 wNotKept5 "LookupError.__new__"))
    (xL_Ended : K.lookup C_Ended = some (excClassObj nmEnded qEnded C_Ended NEnded bsEnded [.ref C_Barred, .type "LookupError", .type "Exception", .type "BaseException", .type "object"] true snEnded subEnded abEnded colEnded ddEnded wEnded0 wEnded1 wEnded2 wEnded3 wEnded5 "LookupError.__new__"))
    (xL_Full : K.lookup C_Full = some (excClassObj nmFull qFull C_Full NFull bsFull [.ref C_Barred, .type "LookupError", .type "Exception", .type "BaseException", .type "object"] true snFull subFull abFull colFull ddFull wFull0 wFull1 wFull2 wFull3 wFull5 "LookupError.__new__"))
    (xL_Moving : K.lookup C_Moving = some (excClassObj nmMoving qMoving C_Moving NMoving bsMoving [.ref C_Barred, .type "LookupError", .type "Exception", .type "BaseException", .type "object"] true snMoving subMoving abMoving colMoving ddMoving wMoving0 wMoving1 wMoving2 wMoving3 wMoving5 "LookupError.__new__"))
    (xL_NotMoving : K.lookup C_NotMoving = some (excClassObj nmNotMoving qNotMoving C_NotMoving NNotMoving bsNotMoving [.ref C_Barred, .type "LookupError", .type "Exception", .type "BaseException", .type "object"] true snNotMoving subNotMoving abNotMoving colNotMoving ddNotMoving wNotMoving0 wNotMoving1 wNotMoving2 wNotMoving3 wNotMoving5 "LookupError.__new__"))
    (xL_Fallen : K.lookup C_Fallen = some (excClassObj nmFallen qFallen C_Fallen NFallen bsFallen [.ref C_Barred, .type "LookupError", .type "Exception", .type "BaseException", .type "object"] true snFallen subFallen abFallen colFallen ddFallen wFallen0 wFallen1 wFallen2 wFallen3 wFallen5 "LookupError.__new__"))
    (xL_Standing : K.lookup C_Standing = some (excClassObj nmStanding qStanding C_Standing NStanding bsStanding [.ref C_Barred, .type "LookupError", .type "Exception", .type "BaseException", .type "object"] true snStanding subStanding abStanding colStanding ddStanding wStanding0 wStanding1 wStanding2 wStanding3 wStanding5 "LookupError.__new__"))
    (xL_Parted : K.lookup C_Parted = some (excClassObj nmParted qParted C_Parted NParted bsParted [.ref C_Barred, .type "LookupError", .type "Exception", .type "BaseException", .type "object"] true snParted subParted abParted colParted ddParted wParted0 wParted1 wParted2 wParted3 wParted5 "LookupError.__new__"))
    (xL_Over : K.lookup C_Over = some (excClassObj nmOver qOver C_Over NOver bsOver [.ref C_Barred, .type "LookupError", .type "Exception", .type "BaseException", .type "object"] true snOver subOver abOver colOver ddOver wOver0 wOver1 wOver2 wOver3 wOver5 "LookupError.__new__"))
    (xL_GuestError : K.lookup C_GuestError = some (excClassObj nmGuestError qGuestError C_GuestError NGuestError bsGuestError [.type "ValueError", .type "Exception", .type "BaseException", .type "object"] true snGuestError subGuestError abGuestError colGuestError ddGuestError wGuestError0 wGuestError1 wGuestError2 wGuestError3 wGuestError5 "ValueError.__new__"))
    (xL_Missing : K.lookup C_Missing = some (excClassObj nmMissing qMissing C_Missing NMissing bsMissing [.type "KeyError", .type "LookupError", .type "Exception", .type "BaseException", .type "object"] true snMissing subMissing abMissing colMissing ddMissing wMissing0 wMissing1 wMissing2 wMissing3 wMissing5 "LookupError.__new__"))
    (xL_Barred : K.lookup C_Barred = some (excClassObj nmBarred qBarred C_Barred NBarred bsBarred [.type "LookupError", .type "Exception", .type "BaseException", .type "object"] true snBarred subBarred abBarred colBarred ddBarred wBarred0 wBarred1 wBarred2 wBarred3 wBarred5 "LookupError.__new__"))
    (q_own : OwnF K (mkAd [C_NoNumber, C_NoName, C_NoWord, C_NoOp, C_NoTruth, C_NoBits, C_Nought, C_NoImage, C_NoText, C_NoRow, C_NoStore, C_NoKind, C_NoLog, C_NoShare, C_NoSnapshot, C_NoHouse, C_NoDeed, C_NoWorld, C_NoPaper, C_NoLine, C_Doubled, C_TooMuch, C_NoGuest, C_NoAsk, C_NotOnRoad, C_NotKept, C_Ended, C_Full, C_Moving, C_NotMoving, C_Fallen, C_Standing, C_Parted, C_Over] [f_NoNumber_init, f_NoName_init, f_NoWord_init, f_NoOp_init, f_NoTruth_init, f_NoBits_init, f_Nought_init, f_NoImage_init, f_NoText_init, f_NoRow_init, f_NoStore_init, f_NoKind_init, f_NoLog_init, f_NoShare_init, f_NoSnapshot_init, f_NoHouse_init, f_NoDeed_init, f_NoWorld_init, f_NoPaper_init, f_NoLine_init, f_Doubled_init, f_TooMuch_init, f_NoGuest_init, f_NoAsk_init, f_NotOnRoad_init, f_NotKept_init, f_Ended_init, f_Full_init, f_Moving_init, f_NotMoving_init, f_Fallen_init, f_Standing_init, f_Parted_init, f_Over_init] [C_GuestError, C_Missing, C_Barred] [f_GuestError_init, f_Missing_init, f_Barred_init]).cl (mkAd [C_NoNumber, C_NoName, C_NoWord, C_NoOp, C_NoTruth, C_NoBits, C_Nought, C_NoImage, C_NoText, C_NoRow, C_NoStore, C_NoKind, C_NoLog, C_NoShare, C_NoSnapshot, C_NoHouse, C_NoDeed, C_NoWorld, C_NoPaper, C_NoLine, C_Doubled, C_TooMuch, C_NoGuest, C_NoAsk, C_NotOnRoad, C_NotKept, C_Ended, C_Full, C_Moving, C_NotMoving, C_Fallen, C_Standing, C_Parted, C_Over] [f_NoNumber_init, f_NoName_init, f_NoWord_init, f_NoOp_init, f_NoTruth_init, f_NoBits_init, f_Nought_init, f_NoImage_init, f_NoText_init, f_NoRow_init, f_NoStore_init, f_NoKind_init, f_NoLog_init, f_NoShare_init, f_NoSnapshot_init, f_NoHouse_init, f_NoDeed_init, f_NoWorld_init, f_NoPaper_init, f_NoLine_init, f_Doubled_init, f_TooMuch_init, f_NoGuest_init, f_NoAsk_init, f_NotOnRoad_init, f_NotKept_init, f_Ended_init, f_Full_init, f_Moving_init, f_NotMoving_init, f_Fallen_init, f_Standing_init, f_Parted_init, f_Over_init] [C_GuestError, C_Missing, C_Barred] [f_GuestError_init, f_Missing_init, f_Barred_init]).fi 34)
    (q_fam : OwnF K (mkAd [C_NoNumber, C_NoName, C_NoWord, C_NoOp, C_NoTruth, C_NoBits, C_Nought, C_NoImage, C_NoText, C_NoRow, C_NoStore, C_NoKind, C_NoLog, C_NoShare, C_NoSnapshot, C_NoHouse, C_NoDeed, C_NoWorld, C_NoPaper, C_NoLine, C_Doubled, C_TooMuch, C_NoGuest, C_NoAsk, C_NotOnRoad, C_NotKept, C_Ended, C_Full, C_Moving, C_NotMoving, C_Fallen, C_Standing, C_Parted, C_Over] [f_NoNumber_init, f_NoName_init, f_NoWord_init, f_NoOp_init, f_NoTruth_init, f_NoBits_init, f_Nought_init, f_NoImage_init, f_NoText_init, f_NoRow_init, f_NoStore_init, f_NoKind_init, f_NoLog_init, f_NoShare_init, f_NoSnapshot_init, f_NoHouse_init, f_NoDeed_init, f_NoWorld_init, f_NoPaper_init, f_NoLine_init, f_Doubled_init, f_TooMuch_init, f_NoGuest_init, f_NoAsk_init, f_NotOnRoad_init, f_NotKept_init, f_Ended_init, f_Full_init, f_Moving_init, f_NotMoving_init, f_Fallen_init, f_Standing_init, f_Parted_init, f_Over_init] [C_GuestError, C_Missing, C_Barred] [f_GuestError_init, f_Missing_init, f_Barred_init]).fm (mkAd [C_NoNumber, C_NoName, C_NoWord, C_NoOp, C_NoTruth, C_NoBits, C_Nought, C_NoImage, C_NoText, C_NoRow, C_NoStore, C_NoKind, C_NoLog, C_NoShare, C_NoSnapshot, C_NoHouse, C_NoDeed, C_NoWorld, C_NoPaper, C_NoLine, C_Doubled, C_TooMuch, C_NoGuest, C_NoAsk, C_NotOnRoad, C_NotKept, C_Ended, C_Full, C_Moving, C_NotMoving, C_Fallen, C_Standing, C_Parted, C_Over] [f_NoNumber_init, f_NoName_init, f_NoWord_init, f_NoOp_init, f_NoTruth_init, f_NoBits_init, f_Nought_init, f_NoImage_init, f_NoText_init, f_NoRow_init, f_NoStore_init, f_NoKind_init, f_NoLog_init, f_NoShare_init, f_NoSnapshot_init, f_NoHouse_init, f_NoDeed_init, f_NoWorld_init, f_NoPaper_init, f_NoLine_init, f_Doubled_init, f_TooMuch_init, f_NoGuest_init, f_NoAsk_init, f_NotOnRoad_init, f_NotKept_init, f_Ended_init, f_Full_init, f_Moving_init, f_NotMoving_init, f_Fallen_init, f_Standing_init, f_Parted_init, f_Over_init] [C_GuestError, C_Missing, C_Barred] [f_GuestError_init, f_Missing_init, f_Barred_init]).ff 3)
    (q_tab : TabF K (mkAd [C_NoNumber, C_NoName, C_NoWord, C_NoOp, C_NoTruth, C_NoBits, C_Nought, C_NoImage, C_NoText, C_NoRow, C_NoStore, C_NoKind, C_NoLog, C_NoShare, C_NoSnapshot, C_NoHouse, C_NoDeed, C_NoWorld, C_NoPaper, C_NoLine, C_Doubled, C_TooMuch, C_NoGuest, C_NoAsk, C_NotOnRoad, C_NotKept, C_Ended, C_Full, C_Moving, C_NotMoving, C_Fallen, C_Standing, C_Parted, C_Over] [f_NoNumber_init, f_NoName_init, f_NoWord_init, f_NoOp_init, f_NoTruth_init, f_NoBits_init, f_Nought_init, f_NoImage_init, f_NoText_init, f_NoRow_init, f_NoStore_init, f_NoKind_init, f_NoLog_init, f_NoShare_init, f_NoSnapshot_init, f_NoHouse_init, f_NoDeed_init, f_NoWorld_init, f_NoPaper_init, f_NoLine_init, f_Doubled_init, f_TooMuch_init, f_NoGuest_init, f_NoAsk_init, f_NotOnRoad_init, f_NotKept_init, f_Ended_init, f_Full_init, f_Moving_init, f_NotMoving_init, f_Fallen_init, f_Standing_init, f_Parted_init, f_Over_init] [C_GuestError, C_Missing, C_Barred] [f_GuestError_init, f_Missing_init, f_Barred_init]))
    (z_isinstance : PySem.W.nsIn K mainGlobals "isinstance" = some none)
    (z_list : PySem.W.nsIn K mainGlobals "list" = some none)
    (z_dict : PySem.W.nsIn K mainGlobals "dict" = some none)
    (z_len : PySem.W.nsIn K mainGlobals "len" = some none)
    (z_max : PySem.W.nsIn K mainGlobals "max" = some none)
    (z_min : PySem.W.nsIn K mainGlobals "min" = some none)
    (z_range : PySem.W.nsIn K mainGlobals "range" = some none)
    (z_repr : PySem.W.nsIn K mainGlobals "repr" = some none)
    (z_str : PySem.W.nsIn K mainGlobals "str" = some none)
    (z_ValueError : PySem.W.nsIn K mainGlobals "ValueError" = some none)
    (z_LookupError : PySem.W.nsIn K mainGlobals "LookupError" = some none)
    (z_KeyError : PySem.W.nsIn K mainGlobals "KeyError" = some none) :
    ∃ fd : FuncData, (∀ (s : Shared) (v : Value), BindsTo s fd ⟨[v], []⟩ [("_law_script", v)]) ∧ ∀ base : Heap, K.In base → base.Ns mainGlobals mg → FnG l.prog w K mg base CX0 6 fa fd ["_law_script"] (spLaw K) := by
  have e := hfa.symm.trans (PySem.W.mg_of X G a_law)
  cases e
  have mo : ∀ {x : Str} {u : Value}, PySem.W.nsIn K mainGlobals x = some (some u) → mg x = some u := fun q => PySem.W.mg_of X G q
  have mz : ∀ {x : Str}, PySem.W.nsIn K mainGlobals x = some none → mg x = none := fun q => PySem.W.mg_none_of X G q
  have F_GuestError_init := fun_mk (st := s_GuestError_init) l_GuestError_init c_GuestError_init k_GuestError_init
  have b_GuestError_init := F_GuestError_init.binds (ps := ["self", "text"]) fun _ _ _ _ _ _ us hl => match us, hl with | [_, _], _ => rfl
  have F_Missing_init := fun_mk (st := s_Missing_init) l_Missing_init c_Missing_init k_Missing_init
  have b_Missing_init := F_Missing_init.binds (ps := ["self", "text"]) fun _ _ _ _ _ _ us hl => match us, hl with | [_, _], _ => rfl
  have F_Barred_init := fun_mk (st := s_Barred_init) l_Barred_init c_Barred_init k_Barred_init
  have b_Barred_init := F_Barred_init.binds (ps := ["self", "text"]) fun _ _ _ _ _ _ us hl => match us, hl with | [_, _], _ => rfl
  have F_NoNumber_init := fun_mk (st := s_NoNumber_init) l_NoNumber_init c_NoNumber_init k_NoNumber_init
  have b_NoNumber_init := F_NoNumber_init.binds (ps := ["self", "found"]) fun _ _ _ _ _ _ us hl => match us, hl with | [_, _], _ => rfl
  have F_NoName_init := fun_mk (st := s_NoName_init) l_NoName_init c_NoName_init k_NoName_init
  have b_NoName_init := F_NoName_init.binds (ps := ["self", "found"]) fun _ _ _ _ _ _ us hl => match us, hl with | [_, _], _ => rfl
  have F_NoWord_init := fun_mk (st := s_NoWord_init) l_NoWord_init c_NoWord_init k_NoWord_init
  have b_NoWord_init := F_NoWord_init.binds (ps := ["self", "found"]) fun _ _ _ _ _ _ us hl => match us, hl with | [_, _], _ => rfl
  have F_NoOp_init := fun_mk (st := s_NoOp_init) l_NoOp_init c_NoOp_init k_NoOp_init
  have b_NoOp_init := F_NoOp_init.binds (ps := ["self", "found"]) fun _ _ _ _ _ _ us hl => match us, hl with | [_, _], _ => rfl
  have F_NoTruth_init := fun_mk (st := s_NoTruth_init) l_NoTruth_init c_NoTruth_init k_NoTruth_init
  have b_NoTruth_init := F_NoTruth_init.binds (ps := ["self", "found"]) fun _ _ _ _ _ _ us hl => match us, hl with | [_, _], _ => rfl
  have F_NoBits_init := fun_mk (st := s_NoBits_init) l_NoBits_init c_NoBits_init k_NoBits_init
  have b_NoBits_init := F_NoBits_init.binds (ps := ["self", "found"]) fun _ _ _ _ _ _ us hl => match us, hl with | [_, _], _ => rfl
  have F_Nought_init := fun_mk (st := s_Nought_init) l_Nought_init c_Nought_init k_Nought_init
  have b_Nought_init := F_Nought_init.binds (ps := ["self", "found"]) fun _ _ _ _ _ _ us hl => match us, hl with | [_, _], _ => rfl
  have F_NoImage_init := fun_mk (st := s_NoImage_init) l_NoImage_init c_NoImage_init k_NoImage_init
  have b_NoImage_init := F_NoImage_init.binds (ps := ["self", "found"]) fun _ _ _ _ _ _ us hl => match us, hl with | [_, _], _ => rfl
  have F_NoText_init := fun_mk (st := s_NoText_init) l_NoText_init c_NoText_init k_NoText_init
  have b_NoText_init := F_NoText_init.binds (ps := ["self", "found"]) fun _ _ _ _ _ _ us hl => match us, hl with | [_, _], _ => rfl
  have F_NoStore_init := fun_mk (st := s_NoStore_init) l_NoStore_init c_NoStore_init k_NoStore_init
  have b_NoStore_init := F_NoStore_init.binds (ps := ["self", "found"]) fun _ _ _ _ _ _ us hl => match us, hl with | [_, _], _ => rfl
  have F_NoKind_init := fun_mk (st := s_NoKind_init) l_NoKind_init c_NoKind_init k_NoKind_init
  have b_NoKind_init := F_NoKind_init.binds (ps := ["self", "found"]) fun _ _ _ _ _ _ us hl => match us, hl with | [_, _], _ => rfl
  have F_NoLog_init := fun_mk (st := s_NoLog_init) l_NoLog_init c_NoLog_init k_NoLog_init
  have b_NoLog_init := F_NoLog_init.binds (ps := ["self", "found"]) fun _ _ _ _ _ _ us hl => match us, hl with | [_, _], _ => rfl
  have F_NoShare_init := fun_mk (st := s_NoShare_init) l_NoShare_init c_NoShare_init k_NoShare_init
  have b_NoShare_init := F_NoShare_init.binds (ps := ["self", "found"]) fun _ _ _ _ _ _ us hl => match us, hl with | [_, _], _ => rfl
  have F_NoSnapshot_init := fun_mk (st := s_NoSnapshot_init) l_NoSnapshot_init c_NoSnapshot_init k_NoSnapshot_init
  have b_NoSnapshot_init := F_NoSnapshot_init.binds (ps := ["self", "found"]) fun _ _ _ _ _ _ us hl => match us, hl with | [_, _], _ => rfl
  have F_NoHouse_init := fun_mk (st := s_NoHouse_init) l_NoHouse_init c_NoHouse_init k_NoHouse_init
  have b_NoHouse_init := F_NoHouse_init.binds (ps := ["self", "found"]) fun _ _ _ _ _ _ us hl => match us, hl with | [_, _], _ => rfl
  have F_NoDeed_init := fun_mk (st := s_NoDeed_init) l_NoDeed_init c_NoDeed_init k_NoDeed_init
  have b_NoDeed_init := F_NoDeed_init.binds (ps := ["self", "found"]) fun _ _ _ _ _ _ us hl => match us, hl with | [_, _], _ => rfl
  have F_NoWorld_init := fun_mk (st := s_NoWorld_init) l_NoWorld_init c_NoWorld_init k_NoWorld_init
  have b_NoWorld_init := F_NoWorld_init.binds (ps := ["self", "found"]) fun _ _ _ _ _ _ us hl => match us, hl with | [_, _], _ => rfl
  have F_NoPaper_init := fun_mk (st := s_NoPaper_init) l_NoPaper_init c_NoPaper_init k_NoPaper_init
  have b_NoPaper_init := F_NoPaper_init.binds (ps := ["self", "found"]) fun _ _ _ _ _ _ us hl => match us, hl with | [_, _], _ => rfl
  have F_NoLine_init := fun_mk (st := s_NoLine_init) l_NoLine_init c_NoLine_init k_NoLine_init
  have b_NoLine_init := F_NoLine_init.binds (ps := ["self", "found"]) fun _ _ _ _ _ _ us hl => match us, hl with | [_, _], _ => rfl
  have F_Doubled_init := fun_mk (st := s_Doubled_init) l_Doubled_init c_Doubled_init k_Doubled_init
  have b_Doubled_init := F_Doubled_init.binds (ps := ["self", "found"]) fun _ _ _ _ _ _ us hl => match us, hl with | [_, _], _ => rfl
  have F_NoRow_init := fun_mk (st := s_NoRow_init) l_NoRow_init c_NoRow_init k_NoRow_init
  have b_NoRow_init := F_NoRow_init.binds (ps := ["self", "at"]) fun _ _ _ _ _ _ us hl => match us, hl with | [_, _], _ => rfl
  have F_TooMuch_init := fun_mk (st := s_TooMuch_init) l_TooMuch_init c_TooMuch_init k_TooMuch_init
  have b_TooMuch_init := F_TooMuch_init.binds (ps := ["self", "many"]) fun _ _ _ _ _ _ us hl => match us, hl with | [_, _], _ => rfl
  have F_NoGuest_init := fun_mk (st := s_NoGuest_init) l_NoGuest_init c_NoGuest_init k_NoGuest_init
  have b_NoGuest_init := F_NoGuest_init.binds (ps := ["self", "found"]) fun _ _ _ _ _ _ us hl => match us, hl with | [_, _], _ => rfl
  have F_NoAsk_init := fun_mk (st := s_NoAsk_init) l_NoAsk_init c_NoAsk_init k_NoAsk_init
  have b_NoAsk_init := F_NoAsk_init.binds (ps := ["self", "found"]) fun _ _ _ _ _ _ us hl => match us, hl with | [_, _], _ => rfl
  have F_NotOnRoad_init := fun_mk (st := s_NotOnRoad_init) l_NotOnRoad_init c_NotOnRoad_init k_NotOnRoad_init
  have b_NotOnRoad_init := F_NotOnRoad_init.binds (ps := ["self", "found"]) fun _ _ _ _ _ _ us hl => match us, hl with | [_, _], _ => rfl
  have F_NotKept_init := fun_mk (st := s_NotKept_init) l_NotKept_init c_NotKept_init k_NotKept_init
  have b_NotKept_init := F_NotKept_init.binds (ps := ["self", "found"]) fun _ _ _ _ _ _ us hl => match us, hl with | [_, _], _ => rfl
  have F_Ended_init := fun_mk (st := s_Ended_init) l_Ended_init c_Ended_init k_Ended_init
  have b_Ended_init := F_Ended_init.binds (ps := ["self", "found"]) fun _ _ _ _ _ _ us hl => match us, hl with | [_, _], _ => rfl
  have F_Moving_init := fun_mk (st := s_Moving_init) l_Moving_init c_Moving_init k_Moving_init
  have b_Moving_init := F_Moving_init.binds (ps := ["self", "found"]) fun _ _ _ _ _ _ us hl => match us, hl with | [_, _], _ => rfl
  have F_NotMoving_init := fun_mk (st := s_NotMoving_init) l_NotMoving_init c_NotMoving_init k_NotMoving_init
  have b_NotMoving_init := F_NotMoving_init.binds (ps := ["self", "found"]) fun _ _ _ _ _ _ us hl => match us, hl with | [_, _], _ => rfl
  have F_Fallen_init := fun_mk (st := s_Fallen_init) l_Fallen_init c_Fallen_init k_Fallen_init
  have b_Fallen_init := F_Fallen_init.binds (ps := ["self", "found"]) fun _ _ _ _ _ _ us hl => match us, hl with | [_, _], _ => rfl
  have F_Standing_init := fun_mk (st := s_Standing_init) l_Standing_init c_Standing_init k_Standing_init
  have b_Standing_init := F_Standing_init.binds (ps := ["self", "found"]) fun _ _ _ _ _ _ us hl => match us, hl with | [_, _], _ => rfl
  have F_Full_init := fun_mk (st := s_Full_init) l_Full_init c_Full_init k_Full_init
  have b_Full_init := F_Full_init.binds (ps := ["self", "many"]) fun _ _ _ _ _ _ us hl => match us, hl with | [_, _], _ => rfl
  have F_Parted_init := fun_mk (st := s_Parted_init) l_Parted_init c_Parted_init k_Parted_init
  have b_Parted_init := F_Parted_init.binds (ps := ["self", "found", "at"]) fun _ _ _ _ _ _ us hl => match us, hl with | [_, _, _], _ => rfl
  have F_Over_init := fun_mk (st := s_Over_init) l_Over_init c_Over_init k_Over_init
  have b_Over_init := F_Over_init.binds (ps := ["self"]) fun _ _ _ _ _ _ us hl => match us, hl with | [_], _ => rfl
  have F_cell_L := fun_mk (st := s_cell_L) l_cell_L c_cell_L k_cell_L
  have b_cell_L := F_cell_L.binds (ps := ["_law_script", "_law_k"]) fun _ _ _ _ _ _ us hl => match us, hl with | [_, _], _ => rfl
  have F_box_L := fun_mk (st := s_box_L) l_box_L c_box_L k_box_L
  have b_box_L := F_box_L.binds (ps := ["_law_cell_here"]) fun _ _ _ _ _ _ us hl => match us, hl with | [_], _ => rfl
  have F_take_L := fun_mk (st := s_take_L) l_take_L c_take_L k_take_L
  have b_take_L := F_take_L.binds (ps := ["_law_box_here", "_law_size"]) fun _ _ _ _ _ _ us hl => match us, hl with | [_, _], _ => rfl
  have F_thing_L := fun_mk (st := s_thing_L) l_thing_L c_thing_L k_thing_L
  have b_thing_L := F_thing_L.binds (ps := ["_law_box_here"]) fun _ _ _ _ _ _ us hl => match us, hl with | [_], _ => rfl
  have F_by_place_L := fun_mk (st := s_by_place_L) l_by_place_L c_by_place_L k_by_place_L
  have b_by_place_L := F_by_place_L.binds (ps := ["_law_k", "_law_thing_here"]) fun _ _ _ _ _ _ us hl => match us, hl with | [_, _], _ => rfl
  have F_by_place_more_L := fun_mk (st := s_by_place_more_L) l_by_place_more_L c_by_place_more_L k_by_place_more_L
  have b_by_place_more_L := F_by_place_more_L.binds (ps := ["_law_k", "_law_thing_here"]) fun _ _ _ _ _ _ us hl => match us, hl with | [_, _], _ => rfl
  have F_by_name_L := fun_mk (st := s_by_name_L) l_by_name_L c_by_name_L k_by_name_L
  have b_by_name_L := F_by_name_L.binds (ps := ["_law_k", "_law_thing_here"]) fun _ _ _ _ _ _ us hl => match us, hl with | [_, _], _ => rfl
  have F_by_name_more_L := fun_mk (st := s_by_name_more_L) l_by_name_more_L c_by_name_more_L k_by_name_more_L
  have b_by_name_more_L := F_by_name_more_L.binds (ps := ["_law_k", "_law_thing_here"]) fun _ _ _ _ _ _ us hl => match us, hl with | [_, _], _ => rfl
  have F_classes_L := fun_mk (st := s_classes_L) l_classes_L c_classes_L k_classes_L
  have b_classes_L := F_classes_L.binds (ps := ["_law_e"]) fun _ _ _ _ _ _ us hl => match us, hl with | [_], _ => rfl
  have F_families_L := fun_mk (st := s_families_L) l_families_L c_families_L k_families_L
  have b_families_L := F_families_L.binds (ps := ["_law_e"]) fun _ _ _ _ _ _ us hl => match us, hl with | [_], _ => rfl
  have F_due_families_L := fun_mk (st := s_due_families_L) l_due_families_L c_due_families_L k_due_families_L
  have b_due_families_L := F_due_families_L.binds (ps := ["_law_k"]) fun _ _ _ _ _ _ us hl => match us, hl with | [_], _ => rfl
  have F_field_L := fun_mk (st := s_field_L) l_field_L c_field_L k_field_L
  have b_field_L := F_field_L.binds (ps := ["_law_e", "_law_k"]) fun _ _ _ _ _ _ us hl => match us, hl with | [_, _], _ => rfl
  have F_grown_L := fun_mk (st := s_grown_L) l_grown_L c_grown_L k_grown_L
  have b_grown_L := F_grown_L.binds (ps := ["_law_thing_here"]) fun _ _ _ _ _ _ us hl => match us, hl with | [_], _ => rfl
  have F_right_L := fun_mk (st := s_right_L) l_right_L c_right_L k_right_L
  have b_right_L := F_right_L.binds (ps := ["_law_e", "_law_k", "_law_thing_here"]) fun _ _ _ _ _ _ us hl => match us, hl with | [_, _, _], _ => rfl
  have F_two_right_L := fun_mk (st := s_two_right_L) l_two_right_L c_two_right_L k_two_right_L
  have b_two_right_L := F_two_right_L.binds (ps := ["_law_one", "_law_other"]) fun _ _ _ _ _ _ us hl => match us, hl with | [_, _], _ => rfl
  have F_base_L := fun_mk (st := s_base_L) l_base_L c_base_L k_base_L
  have b_base_L := F_base_L.binds (ps := ["_law_way", "_law_words"]) fun _ _ _ _ _ _ us hl => match us, hl with | [_, _], _ => rfl
  have F_law := fun_mk (st := s_law) l_law c_law k_law
  have T : Txt K mg (mkAd [C_NoNumber, C_NoName, C_NoWord, C_NoOp, C_NoTruth, C_NoBits, C_Nought, C_NoImage, C_NoText, C_NoRow, C_NoStore, C_NoKind, C_NoLog, C_NoShare, C_NoSnapshot, C_NoHouse, C_NoDeed, C_NoWorld, C_NoPaper, C_NoLine, C_Doubled, C_TooMuch, C_NoGuest, C_NoAsk, C_NotOnRoad, C_NotKept, C_Ended, C_Full, C_Moving, C_NotMoving, C_Fallen, C_Standing, C_Parted, C_Over] [f_NoNumber_init, f_NoName_init, f_NoWord_init, f_NoOp_init, f_NoTruth_init, f_NoBits_init, f_Nought_init, f_NoImage_init, f_NoText_init, f_NoRow_init, f_NoStore_init, f_NoKind_init, f_NoLog_init, f_NoShare_init, f_NoSnapshot_init, f_NoHouse_init, f_NoDeed_init, f_NoWorld_init, f_NoPaper_init, f_NoLine_init, f_Doubled_init, f_TooMuch_init, f_NoGuest_init, f_NoAsk_init, f_NotOnRoad_init, f_NotKept_init, f_Ended_init, f_Full_init, f_Moving_init, f_NotMoving_init, f_Fallen_init, f_Standing_init, f_Parted_init, f_Over_init] [C_GuestError, C_Missing, C_Barred] [f_GuestError_init, f_Missing_init, f_Barred_init]) :=
    { m_isinstance := mz z_isinstance, m_list := mz z_list, m_dict := mz z_dict, m_len := mz z_len, m_max := mz z_max, m_min := mz z_min, m_range := mz z_range, m_repr := mz z_repr, m_str := mz z_str, m_ValueError := mz z_ValueError, m_LookupError := mz z_LookupError, m_KeyError := mz z_KeyError,
      g_NoNumber := mo aC_NoNumber, g_NoName := mo aC_NoName, g_NoWord := mo aC_NoWord, g_NoOp := mo aC_NoOp, g_NoTruth := mo aC_NoTruth, g_NoBits := mo aC_NoBits, g_Nought := mo aC_Nought, g_NoImage := mo aC_NoImage, g_NoText := mo aC_NoText, g_NoRow := mo aC_NoRow, g_NoStore := mo aC_NoStore, g_NoKind := mo aC_NoKind, g_NoLog := mo aC_NoLog, g_NoShare := mo aC_NoShare, g_NoSnapshot := mo aC_NoSnapshot, g_NoHouse := mo aC_NoHouse, g_NoDeed := mo aC_NoDeed, g_NoWorld := mo aC_NoWorld, g_NoPaper := mo aC_NoPaper, g_NoLine := mo aC_NoLine, g_Doubled := mo aC_Doubled, g_TooMuch := mo aC_TooMuch, g_NoGuest := mo aC_NoGuest, g_NoAsk := mo aC_NoAsk, g_NotOnRoad := mo aC_NotOnRoad, g_NotKept := mo aC_NotKept, g_Ended := mo aC_Ended, g_Full := mo aC_Full, g_Moving := mo aC_Moving, g_NotMoving := mo aC_NotMoving, g_Fallen := mo aC_Fallen, g_Standing := mo aC_Standing, g_Parted := mo aC_Parted, g_Over := mo aC_Over,
      g_GuestError := mo aC_GuestError, rd_GuestError := rd_GuestError, ga_GuestError := ga_GuestError, at_GuestError := at_GuestError,
      g_Missing := mo aC_Missing, rd_Missing := rd_Missing, ga_Missing := ga_Missing, at_Missing := at_Missing,
      g_Barred := mo aC_Barred, rd_Barred := rd_Barred, ga_Barred := ga_Barred, at_Barred := at_Barred,
      vV := v_ValueError, vK := v_KeyError, vL := v_LookupError,
      own := q_own.own (b := bsN) (fun k hk => match k, hk with
        | 0, _ => XL.own ⟨_, _, _, _, _, _, _, _, _, _, _, _, _, _, xL_NoNumber⟩
        | 1, _ => XL.own ⟨_, _, _, _, _, _, _, _, _, _, _, _, _, _, xL_NoName⟩
        | 2, _ => XL.own ⟨_, _, _, _, _, _, _, _, _, _, _, _, _, _, xL_NoWord⟩
        | 3, _ => XL.own ⟨_, _, _, _, _, _, _, _, _, _, _, _, _, _, xL_NoOp⟩
        | 4, _ => XL.own ⟨_, _, _, _, _, _, _, _, _, _, _, _, _, _, xL_NoTruth⟩
        | 5, _ => XL.own ⟨_, _, _, _, _, _, _, _, _, _, _, _, _, _, xL_NoBits⟩
        | 6, _ => XL.own ⟨_, _, _, _, _, _, _, _, _, _, _, _, _, _, xL_Nought⟩
        | 7, _ => XL.own ⟨_, _, _, _, _, _, _, _, _, _, _, _, _, _, xL_NoImage⟩
        | 8, _ => XL.own ⟨_, _, _, _, _, _, _, _, _, _, _, _, _, _, xL_NoText⟩
        | 9, _ => XL.own ⟨_, _, _, _, _, _, _, _, _, _, _, _, _, _, xL_NoRow⟩
        | 10, _ => XL.own ⟨_, _, _, _, _, _, _, _, _, _, _, _, _, _, xL_NoStore⟩
        | 11, _ => XL.own ⟨_, _, _, _, _, _, _, _, _, _, _, _, _, _, xL_NoKind⟩
        | 12, _ => XL.own ⟨_, _, _, _, _, _, _, _, _, _, _, _, _, _, xL_NoLog⟩
        | 13, _ => XL.own ⟨_, _, _, _, _, _, _, _, _, _, _, _, _, _, xL_NoShare⟩
        | 14, _ => XL.own ⟨_, _, _, _, _, _, _, _, _, _, _, _, _, _, xL_NoSnapshot⟩
        | 15, _ => XL.own ⟨_, _, _, _, _, _, _, _, _, _, _, _, _, _, xL_NoHouse⟩
        | 16, _ => XL.own ⟨_, _, _, _, _, _, _, _, _, _, _, _, _, _, xL_NoDeed⟩
        | 17, _ => XL.own ⟨_, _, _, _, _, _, _, _, _, _, _, _, _, _, xL_NoWorld⟩
        | 18, _ => XL.own ⟨_, _, _, _, _, _, _, _, _, _, _, _, _, _, xL_NoPaper⟩
        | 19, _ => XL.own ⟨_, _, _, _, _, _, _, _, _, _, _, _, _, _, xL_NoLine⟩
        | 20, _ => XL.own ⟨_, _, _, _, _, _, _, _, _, _, _, _, _, _, xL_Doubled⟩
        | 21, _ => XL.own ⟨_, _, _, _, _, _, _, _, _, _, _, _, _, _, xL_TooMuch⟩
        | 22, _ => XL.own ⟨_, _, _, _, _, _, _, _, _, _, _, _, _, _, xL_NoGuest⟩
        | 23, _ => XL.own ⟨_, _, _, _, _, _, _, _, _, _, _, _, _, _, xL_NoAsk⟩
        | 24, _ => XL.own ⟨_, _, _, _, _, _, _, _, _, _, _, _, _, _, xL_NotOnRoad⟩
        | 25, _ => XL.own ⟨_, _, _, _, _, _, _, _, _, _, _, _, _, _, xL_NotKept⟩
        | 26, _ => XL.own ⟨_, _, _, _, _, _, _, _, _, _, _, _, _, _, xL_Ended⟩
        | 27, _ => XL.own ⟨_, _, _, _, _, _, _, _, _, _, _, _, _, _, xL_Full⟩
        | 28, _ => XL.own ⟨_, _, _, _, _, _, _, _, _, _, _, _, _, _, xL_Moving⟩
        | 29, _ => XL.own ⟨_, _, _, _, _, _, _, _, _, _, _, _, _, _, xL_NotMoving⟩
        | 30, _ => XL.own ⟨_, _, _, _, _, _, _, _, _, _, _, _, _, _, xL_Fallen⟩
        | 31, _ => XL.own ⟨_, _, _, _, _, _, _, _, _, _, _, _, _, _, xL_Standing⟩
        | 32, _ => XL.own ⟨_, _, _, _, _, _, _, _, _, _, _, _, _, _, xL_Parted⟩
        | 33, _ => XL.own ⟨_, _, _, _, _, _, _, _, _, _, _, _, _, _, xL_Over⟩
        | n + 34, h => absurd h (by omega)) hn htk,
      fam := q_fam.own (b := bsF) (fun k hk => match k, hk with
        | 0, _ => XL.fam ⟨_, _, _, _, _, _, _, _, _, _, _, _, _, _, xL_GuestError⟩
        | 1, _ => XL.fam ⟨_, _, _, _, _, _, _, _, _, _, _, _, _, _, xL_Missing⟩
        | 2, _ => XL.fam ⟨_, _, _, _, _, _, _, _, _, _, _, _, _, _, xL_Barred⟩
        | n + 3, h => absurd h (by omega)) hn htk,
      nf := fun k hk => of_map q_tab.nf hk, nf32 := nf32, nf33 := nf33,
      tab := fun i j hi hj => of_map (of_map q_tab.tab hi) hj, tabF := fun i j hi hj => of_map (of_map q_tab.tabF hi) hj, fams := fun i j hi hj => of_map (of_map q_tab.fams hi) hj, famsF := fun i j hi hj => of_map (of_map q_tab.famsF hi) hj }
  refine ⟨PySem.W.fnOf "law" "law" (defArgs s_law) (defBody s_law) (defScope s_law) .none kV_law dc_law pm_law an_law cd_law ct_law, fun s v => .of_eq rfl, fun base _ _ => ?_⟩
  have c_cell := CalD.mk' (P := l.prog) (w := w) (base := base) (mo a_cell_L) k_cell_L (ok_cell F_cell_L T) b_cell_L
  have c_box := CalD.mk' (P := l.prog) (w := w) (base := base) (mo a_box_L) k_box_L (ok_box F_box_L T) b_box_L
  have c_take := CalD.mk' (P := l.prog) (w := w) (base := base) (mo a_take_L) k_take_L (ok_take F_take_L T) b_take_L
  have O : Os l.prog w K mg base _ := mk_os T
    F_GuestError_init b_GuestError_init k_GuestError_init
    F_Missing_init b_Missing_init k_Missing_init
    F_Barred_init b_Barred_init k_Barred_init
    F_NoNumber_init b_NoNumber_init
    F_NoName_init b_NoName_init
    F_NoWord_init b_NoWord_init
    F_NoOp_init b_NoOp_init
    F_NoTruth_init b_NoTruth_init
    F_NoBits_init b_NoBits_init
    F_Nought_init b_Nought_init
    F_NoImage_init b_NoImage_init
    F_NoText_init b_NoText_init
    F_NoRow_init b_NoRow_init
    F_NoStore_init b_NoStore_init
    F_NoKind_init b_NoKind_init
    F_NoLog_init b_NoLog_init
    F_NoShare_init b_NoShare_init
    F_NoSnapshot_init b_NoSnapshot_init
    F_NoHouse_init b_NoHouse_init
    F_NoDeed_init b_NoDeed_init
    F_NoWorld_init b_NoWorld_init
    F_NoPaper_init b_NoPaper_init
    F_NoLine_init b_NoLine_init
    F_Doubled_init b_Doubled_init
    F_TooMuch_init b_TooMuch_init
    F_NoGuest_init b_NoGuest_init
    F_NoAsk_init b_NoAsk_init
    F_NotOnRoad_init b_NotOnRoad_init
    F_NotKept_init b_NotKept_init
    F_Ended_init b_Ended_init
    F_Full_init b_Full_init
    F_Moving_init b_Moving_init
    F_NotMoving_init b_NotMoving_init
    F_Fallen_init b_Fallen_init
    F_Standing_init b_Standing_init
    F_Parted_init b_Parted_init
    F_Over_init b_Over_init
  have c_pm := CalD.mk' (mo a_by_place_more_L) k_by_place_more_L (ok_by_place_more F_by_place_more_L T O) b_by_place_more_L
  have c_bp := CalD.mk' (mo a_by_place_L) k_by_place_L (ok_by_place F_by_place_L T O c_pm) b_by_place_L
  have c_nm := CalD.mk' (mo a_by_name_more_L) k_by_name_more_L (ok_by_name_more F_by_name_more_L T O) b_by_name_more_L
  have c_bn := CalD.mk' (mo a_by_name_L) k_by_name_L (ok_by_name F_by_name_L T O c_nm) b_by_name_L
  have c_cl := CalD.mk' (P := l.prog) (w := w) (base := base) (mo a_classes_L) k_classes_L (ok_classes F_classes_L T) b_classes_L
  have c_fa := CalD.mk' (P := l.prog) (w := w) (base := base) (mo a_families_L) k_families_L (ok_families F_families_L T) b_families_L
  have c_du := CalD.mk' (P := l.prog) (w := w) (base := base) (mo a_due_families_L) k_due_families_L (ok_due F_due_families_L T) b_due_families_L
  have c_fi := CalD.mk' (P := l.prog) (w := w) (base := base) (mo a_field_L) k_field_L (ok_field F_field_L T) b_field_L
  have c_th := CalD.mk' (mo a_thing_L) k_thing_L (ok_thing F_thing_L T c_take) b_thing_L
  have c_gr := CalD.mk' (P := l.prog) (w := w) (base := base) (mo a_grown_L) k_grown_L (ok_grown F_grown_L T) b_grown_L
  have c_ri := CalG.mk' (mo a_right_L) k_right_L (ok_right F_right_L T c_cl c_fa c_du c_gr c_fi) b_right_L
  have c_tw := CalG.mk' (mo a_two_right_L) k_two_right_L (ok_two F_two_right_L T O c_cl c_fa c_du c_gr) b_two_right_L
  have c_ba := CalD.mk' (mo a_base_L) k_base_L (ok_base F_base_L T O) b_base_L
  exact ok_law F_law T c_cell c_box c_th c_bp c_bn c_ri c_tw c_ba c_cl c_fa c_du
end K82
open PySem PySem.W PyProof.Rows
set_option maxHeartbeats 0 in
theorem PySem.Challenge.cw_guestsalone_k82_refusals_apart_holds : PySem.Challenge.rw_guestsalone_k82_refusals_apart.Holds := by
  w_on; o_law; k_head; (case hw => w_witness2)
  k_fill
  refine Bk.walk_ofG (l := PySem.Challenge.rw_guestsalone_k82_refusals_apart) (n := 63) (k := 6) (x := "_law_script") (sp := fun w => K82.spLaw _) rfl (by decide) rfl ⟨rfl, by decide, by decide⟩ (fun w h Y => PySem.W.kIn_of Y) ?F (fun _ _ a ns hl _ hS => ⟨a, ns, rfl, hS, hl, fun _ => rfl⟩)
  case F =>
    intro w mg fa h KX G hmg
    refine' K82.all_mk KX G hmg ?aC_GuestError ?aC_Missing ?aC_Barred ?aC_NoNumber ?aC_NoName ?aC_NoWord ?aC_NoOp ?aC_NoTruth ?aC_NoBits ?aC_Nought ?aC_NoImage ?aC_NoText ?aC_NoStore ?aC_NoKind ?aC_NoLog ?aC_NoShare ?aC_NoSnapshot ?aC_NoHouse ?aC_NoDeed ?aC_NoWorld ?aC_NoPaper ?aC_NoLine ?aC_Doubled ?aC_NoRow ?aC_TooMuch ?aC_NoGuest ?aC_NoAsk ?aC_NotOnRoad ?aC_NotKept ?aC_Ended ?aC_Moving ?aC_NotMoving ?aC_Fallen ?aC_Standing ?aC_Full ?aC_Parted ?aC_Over ?a_GuestError_init ?l_GuestError_init ?c_GuestError_init ?k_GuestError_init ?a_Missing_init ?l_Missing_init ?c_Missing_init ?k_Missing_init ?a_Barred_init ?l_Barred_init ?c_Barred_init ?k_Barred_init ?a_NoNumber_init ?l_NoNumber_init ?c_NoNumber_init ?k_NoNumber_init ?a_NoName_init ?l_NoName_init ?c_NoName_init ?k_NoName_init ?a_NoWord_init ?l_NoWord_init ?c_NoWord_init ?k_NoWord_init ?a_NoOp_init ?l_NoOp_init ?c_NoOp_init ?k_NoOp_init ?a_NoTruth_init ?l_NoTruth_init ?c_NoTruth_init ?k_NoTruth_init ?a_NoBits_init ?l_NoBits_init ?c_NoBits_init ?k_NoBits_init ?a_Nought_init ?l_Nought_init ?c_Nought_init ?k_Nought_init ?a_NoImage_init ?l_NoImage_init ?c_NoImage_init ?k_NoImage_init ?a_NoText_init ?l_NoText_init ?c_NoText_init ?k_NoText_init ?a_NoStore_init ?l_NoStore_init ?c_NoStore_init ?k_NoStore_init ?a_NoKind_init ?l_NoKind_init ?c_NoKind_init ?k_NoKind_init ?a_NoLog_init ?l_NoLog_init ?c_NoLog_init ?k_NoLog_init ?a_NoShare_init ?l_NoShare_init ?c_NoShare_init ?k_NoShare_init ?a_NoSnapshot_init ?l_NoSnapshot_init ?c_NoSnapshot_init ?k_NoSnapshot_init ?a_NoHouse_init ?l_NoHouse_init ?c_NoHouse_init ?k_NoHouse_init ?a_NoDeed_init ?l_NoDeed_init ?c_NoDeed_init ?k_NoDeed_init ?a_NoWorld_init ?l_NoWorld_init ?c_NoWorld_init ?k_NoWorld_init ?a_NoPaper_init ?l_NoPaper_init ?c_NoPaper_init ?k_NoPaper_init ?a_NoLine_init ?l_NoLine_init ?c_NoLine_init ?k_NoLine_init ?a_Doubled_init ?l_Doubled_init ?c_Doubled_init ?k_Doubled_init ?a_NoRow_init ?l_NoRow_init ?c_NoRow_init ?k_NoRow_init ?a_TooMuch_init ?l_TooMuch_init ?c_TooMuch_init ?k_TooMuch_init ?a_NoGuest_init ?l_NoGuest_init ?c_NoGuest_init ?k_NoGuest_init ?a_NoAsk_init ?l_NoAsk_init ?c_NoAsk_init ?k_NoAsk_init ?a_NotOnRoad_init ?l_NotOnRoad_init ?c_NotOnRoad_init ?k_NotOnRoad_init ?a_NotKept_init ?l_NotKept_init ?c_NotKept_init ?k_NotKept_init ?a_Ended_init ?l_Ended_init ?c_Ended_init ?k_Ended_init ?a_Moving_init ?l_Moving_init ?c_Moving_init ?k_Moving_init ?a_NotMoving_init ?l_NotMoving_init ?c_NotMoving_init ?k_NotMoving_init ?a_Fallen_init ?l_Fallen_init ?c_Fallen_init ?k_Fallen_init ?a_Standing_init ?l_Standing_init ?c_Standing_init ?k_Standing_init ?a_Full_init ?l_Full_init ?c_Full_init ?k_Full_init ?a_Parted_init ?l_Parted_init ?c_Parted_init ?k_Parted_init ?a_Over_init ?l_Over_init ?c_Over_init ?k_Over_init ?a_cell_L ?l_cell_L ?c_cell_L ?k_cell_L ?a_box_L ?l_box_L ?c_box_L ?k_box_L ?a_take_L ?l_take_L ?c_take_L ?k_take_L ?a_thing_L ?l_thing_L ?c_thing_L ?k_thing_L ?a_by_place_L ?l_by_place_L ?c_by_place_L ?k_by_place_L ?a_by_place_more_L ?l_by_place_more_L ?c_by_place_more_L ?k_by_place_more_L ?a_by_name_L ?l_by_name_L ?c_by_name_L ?k_by_name_L ?a_by_name_more_L ?l_by_name_more_L ?c_by_name_more_L ?k_by_name_more_L ?a_classes_L ?l_classes_L ?c_classes_L ?k_classes_L ?a_families_L ?l_families_L ?c_families_L ?k_families_L ?a_due_families_L ?l_due_families_L ?c_due_families_L ?k_due_families_L ?a_field_L ?l_field_L ?c_field_L ?k_field_L ?a_grown_L ?l_grown_L ?c_grown_L ?k_grown_L ?a_right_L ?l_right_L ?c_right_L ?k_right_L ?a_two_right_L ?l_two_right_L ?c_two_right_L ?k_two_right_L ?a_base_L ?l_base_L ?c_base_L ?k_base_L ?a_law ?l_law ?c_law ?k_law ?rd_GuestError ?ga_GuestError ?at_GuestError ?v_ValueError ?rd_Missing ?ga_Missing ?at_Missing ?v_KeyError ?rd_Barred ?ga_Barred ?at_Barred ?v_LookupError ?nf32 ?nf33 ?hn ?htk ?xL_NoNumber ?xL_NoName ?xL_NoWord ?xL_NoOp ?xL_NoTruth ?xL_NoBits ?xL_Nought ?xL_NoImage ?xL_NoText ?xL_NoRow ?xL_NoStore ?xL_NoKind ?xL_NoLog ?xL_NoShare ?xL_NoSnapshot ?xL_NoHouse ?xL_NoDeed ?xL_NoWorld ?xL_NoPaper ?xL_NoLine ?xL_Doubled ?xL_TooMuch ?xL_NoGuest ?xL_NoAsk ?xL_NotOnRoad ?xL_NotKept ?xL_Ended ?xL_Full ?xL_Moving ?xL_NotMoving ?xL_Fallen ?xL_Standing ?xL_Parted ?xL_Over ?xL_GuestError ?xL_Missing ?xL_Barred ?q_own ?q_fam ?q_tab ?z_isinstance ?z_list ?z_dict ?z_len ?z_max ?z_min ?z_range ?z_repr ?z_str ?z_ValueError ?z_LookupError ?z_KeyError
    (case aC_GuestError => k_is)
    (case aC_Missing => k_is)
    (case aC_Barred => k_is)
    (case aC_NoNumber => k_is)
    (case aC_NoName => k_is)
    (case aC_NoWord => k_is)
    (case aC_NoOp => k_is)
    (case aC_NoTruth => k_is)
    (case aC_NoBits => k_is)
    (case aC_Nought => k_is)
    (case aC_NoImage => k_is)
    (case aC_NoText => k_is)
    (case aC_NoStore => k_is)
    (case aC_NoKind => k_is)
    (case aC_NoLog => k_is)
    (case aC_NoShare => k_is)
    (case aC_NoSnapshot => k_is)
    (case aC_NoHouse => k_is)
    (case aC_NoDeed => k_is)
    (case aC_NoWorld => k_is)
    (case aC_NoPaper => k_is)
    (case aC_NoLine => k_is)
    (case aC_Doubled => k_is)
    (case aC_NoRow => k_is)
    (case aC_TooMuch => k_is)
    (case aC_NoGuest => k_is)
    (case aC_NoAsk => k_is)
    (case aC_NotOnRoad => k_is)
    (case aC_NotKept => k_is)
    (case aC_Ended => k_is)
    (case aC_Moving => k_is)
    (case aC_NotMoving => k_is)
    (case aC_Fallen => k_is)
    (case aC_Standing => k_is)
    (case aC_Full => k_is)
    (case aC_Parted => k_is)
    (case aC_Over => k_is)
    (case a_GuestError_init => k_is)
    (case l_GuestError_init => k_is)
    (case c_GuestError_init => k_is)
    (case k_GuestError_init => k_is)
    (case a_Missing_init => k_is)
    (case l_Missing_init => k_is)
    (case c_Missing_init => k_is)
    (case k_Missing_init => k_is)
    (case a_Barred_init => k_is)
    (case l_Barred_init => k_is)
    (case c_Barred_init => k_is)
    (case k_Barred_init => k_is)
    (case a_NoNumber_init => k_is)
    (case l_NoNumber_init => k_is)
    (case c_NoNumber_init => k_is)
    (case k_NoNumber_init => k_is)
    (case a_NoName_init => k_is)
    (case l_NoName_init => k_is)
    (case c_NoName_init => k_is)
    (case k_NoName_init => k_is)
    (case a_NoWord_init => k_is)
    (case l_NoWord_init => k_is)
    (case c_NoWord_init => k_is)
    (case k_NoWord_init => k_is)
    (case a_NoOp_init => k_is)
    (case l_NoOp_init => k_is)
    (case c_NoOp_init => k_is)
    (case k_NoOp_init => k_is)
    (case a_NoTruth_init => k_is)
    (case l_NoTruth_init => k_is)
    (case c_NoTruth_init => k_is)
    (case k_NoTruth_init => k_is)
    (case a_NoBits_init => k_is)
    (case l_NoBits_init => k_is)
    (case c_NoBits_init => k_is)
    (case k_NoBits_init => k_is)
    (case a_Nought_init => k_is)
    (case l_Nought_init => k_is)
    (case c_Nought_init => k_is)
    (case k_Nought_init => k_is)
    (case a_NoImage_init => k_is)
    (case l_NoImage_init => k_is)
    (case c_NoImage_init => k_is)
    (case k_NoImage_init => k_is)
    (case a_NoText_init => k_is)
    (case l_NoText_init => k_is)
    (case c_NoText_init => k_is)
    (case k_NoText_init => k_is)
    (case a_NoStore_init => k_is)
    (case l_NoStore_init => k_is)
    (case c_NoStore_init => k_is)
    (case k_NoStore_init => k_is)
    (case a_NoKind_init => k_is)
    (case l_NoKind_init => k_is)
    (case c_NoKind_init => k_is)
    (case k_NoKind_init => k_is)
    (case a_NoLog_init => k_is)
    (case l_NoLog_init => k_is)
    (case c_NoLog_init => k_is)
    (case k_NoLog_init => k_is)
    (case a_NoShare_init => k_is)
    (case l_NoShare_init => k_is)
    (case c_NoShare_init => k_is)
    (case k_NoShare_init => k_is)
    (case a_NoSnapshot_init => k_is)
    (case l_NoSnapshot_init => k_is)
    (case c_NoSnapshot_init => k_is)
    (case k_NoSnapshot_init => k_is)
    (case a_NoHouse_init => k_is)
    (case l_NoHouse_init => k_is)
    (case c_NoHouse_init => k_is)
    (case k_NoHouse_init => k_is)
    (case a_NoDeed_init => k_is)
    (case l_NoDeed_init => k_is)
    (case c_NoDeed_init => k_is)
    (case k_NoDeed_init => k_is)
    (case a_NoWorld_init => k_is)
    (case l_NoWorld_init => k_is)
    (case c_NoWorld_init => k_is)
    (case k_NoWorld_init => k_is)
    (case a_NoPaper_init => k_is)
    (case l_NoPaper_init => k_is)
    (case c_NoPaper_init => k_is)
    (case k_NoPaper_init => k_is)
    (case a_NoLine_init => k_is)
    (case l_NoLine_init => k_is)
    (case c_NoLine_init => k_is)
    (case k_NoLine_init => k_is)
    (case a_Doubled_init => k_is)
    (case l_Doubled_init => k_is)
    (case c_Doubled_init => k_is)
    (case k_Doubled_init => k_is)
    (case a_NoRow_init => k_is)
    (case l_NoRow_init => k_is)
    (case c_NoRow_init => k_is)
    (case k_NoRow_init => k_is)
    (case a_TooMuch_init => k_is)
    (case l_TooMuch_init => k_is)
    (case c_TooMuch_init => k_is)
    (case k_TooMuch_init => k_is)
    (case a_NoGuest_init => k_is)
    (case l_NoGuest_init => k_is)
    (case c_NoGuest_init => k_is)
    (case k_NoGuest_init => k_is)
    (case a_NoAsk_init => k_is)
    (case l_NoAsk_init => k_is)
    (case c_NoAsk_init => k_is)
    (case k_NoAsk_init => k_is)
    (case a_NotOnRoad_init => k_is)
    (case l_NotOnRoad_init => k_is)
    (case c_NotOnRoad_init => k_is)
    (case k_NotOnRoad_init => k_is)
    (case a_NotKept_init => k_is)
    (case l_NotKept_init => k_is)
    (case c_NotKept_init => k_is)
    (case k_NotKept_init => k_is)
    (case a_Ended_init => k_is)
    (case l_Ended_init => k_is)
    (case c_Ended_init => k_is)
    (case k_Ended_init => k_is)
    (case a_Moving_init => k_is)
    (case l_Moving_init => k_is)
    (case c_Moving_init => k_is)
    (case k_Moving_init => k_is)
    (case a_NotMoving_init => k_is)
    (case l_NotMoving_init => k_is)
    (case c_NotMoving_init => k_is)
    (case k_NotMoving_init => k_is)
    (case a_Fallen_init => k_is)
    (case l_Fallen_init => k_is)
    (case c_Fallen_init => k_is)
    (case k_Fallen_init => k_is)
    (case a_Standing_init => k_is)
    (case l_Standing_init => k_is)
    (case c_Standing_init => k_is)
    (case k_Standing_init => k_is)
    (case a_Full_init => k_is)
    (case l_Full_init => k_is)
    (case c_Full_init => k_is)
    (case k_Full_init => k_is)
    (case a_Parted_init => k_is)
    (case l_Parted_init => k_is)
    (case c_Parted_init => k_is)
    (case k_Parted_init => k_is)
    (case a_Over_init => k_is)
    (case l_Over_init => k_is)
    (case c_Over_init => k_is)
    (case k_Over_init => k_is)
    (case a_cell_L => k_is)
    (case l_cell_L => k_is)
    (case c_cell_L => k_is)
    (case k_cell_L => k_is)
    (case a_box_L => k_is)
    (case l_box_L => k_is)
    (case c_box_L => k_is)
    (case k_box_L => k_is)
    (case a_take_L => k_is)
    (case l_take_L => k_is)
    (case c_take_L => k_is)
    (case k_take_L => k_is)
    (case a_thing_L => k_is)
    (case l_thing_L => k_is)
    (case c_thing_L => k_is)
    (case k_thing_L => k_is)
    (case a_by_place_L => k_is)
    (case l_by_place_L => k_is)
    (case c_by_place_L => k_is)
    (case k_by_place_L => k_is)
    (case a_by_place_more_L => k_is)
    (case l_by_place_more_L => k_is)
    (case c_by_place_more_L => k_is)
    (case k_by_place_more_L => k_is)
    (case a_by_name_L => k_is)
    (case l_by_name_L => k_is)
    (case c_by_name_L => k_is)
    (case k_by_name_L => k_is)
    (case a_by_name_more_L => k_is)
    (case l_by_name_more_L => k_is)
    (case c_by_name_more_L => k_is)
    (case k_by_name_more_L => k_is)
    (case a_classes_L => k_is)
    (case l_classes_L => k_is)
    (case c_classes_L => k_is)
    (case k_classes_L => k_is)
    (case a_families_L => k_is)
    (case l_families_L => k_is)
    (case c_families_L => k_is)
    (case k_families_L => k_is)
    (case a_due_families_L => k_is)
    (case l_due_families_L => k_is)
    (case c_due_families_L => k_is)
    (case k_due_families_L => k_is)
    (case a_field_L => k_is)
    (case l_field_L => k_is)
    (case c_field_L => k_is)
    (case k_field_L => k_is)
    (case a_grown_L => k_is)
    (case l_grown_L => k_is)
    (case c_grown_L => k_is)
    (case k_grown_L => k_is)
    (case a_right_L => k_is)
    (case l_right_L => k_is)
    (case c_right_L => k_is)
    (case k_right_L => k_is)
    (case a_two_right_L => k_is)
    (case l_two_right_L => k_is)
    (case c_two_right_L => k_is)
    (case k_two_right_L => k_is)
    (case a_base_L => k_is)
    (case l_base_L => k_is)
    (case c_base_L => k_is)
    (case k_base_L => k_is)
    (case a_law => k_is)
    (case l_law => k_is)
    (case c_law => k_is)
    (case k_law => k_is)
    (case rd_GuestError => k_is)
    (case ga_GuestError => k_is)
    (case at_GuestError => k_is)
    (case v_ValueError => k_is)
    (case rd_Missing => k_is)
    (case ga_Missing => k_is)
    (case at_Missing => k_is)
    (case v_KeyError => k_is)
    (case rd_Barred => k_is)
    (case ga_Barred => k_is)
    (case at_Barred => k_is)
    (case v_LookupError => k_is)
    (case nf32 => k_is)
    (case nf33 => k_is)
    (case hn => k_is)
    (case htk => k_is)
    (case xL_NoNumber => k_is)
    (case xL_NoName => k_is)
    (case xL_NoWord => k_is)
    (case xL_NoOp => k_is)
    (case xL_NoTruth => k_is)
    (case xL_NoBits => k_is)
    (case xL_Nought => k_is)
    (case xL_NoImage => k_is)
    (case xL_NoText => k_is)
    (case xL_NoRow => k_is)
    (case xL_NoStore => k_is)
    (case xL_NoKind => k_is)
    (case xL_NoLog => k_is)
    (case xL_NoShare => k_is)
    (case xL_NoSnapshot => k_is)
    (case xL_NoHouse => k_is)
    (case xL_NoDeed => k_is)
    (case xL_NoWorld => k_is)
    (case xL_NoPaper => k_is)
    (case xL_NoLine => k_is)
    (case xL_Doubled => k_is)
    (case xL_TooMuch => k_is)
    (case xL_NoGuest => k_is)
    (case xL_NoAsk => k_is)
    (case xL_NotOnRoad => k_is)
    (case xL_NotKept => k_is)
    (case xL_Ended => k_is)
    (case xL_Full => k_is)
    (case xL_Moving => k_is)
    (case xL_NotMoving => k_is)
    (case xL_Fallen => k_is)
    (case xL_Standing => k_is)
    (case xL_Parted => k_is)
    (case xL_Over => k_is)
    (case xL_GuestError => k_is)
    (case xL_Missing => k_is)
    (case xL_Barred => k_is)
    (case q_own => refine ⟨?_, ?_, ?_, ?_, ?_, ?_, ?_, ?_, ?_, ?_, ?_⟩ <;> kernel_rfl)
    (case q_fam => refine ⟨?_, ?_, ?_, ?_, ?_, ?_, ?_, ?_, ?_, ?_, ?_⟩ <;> kernel_rfl)
    (case q_tab => refine ⟨?_, ?_, ?_, ?_, ?_⟩ <;> kernel_rfl)
    (case z_isinstance => k_is)
    (case z_list => k_is)
    (case z_dict => k_is)
    (case z_len => k_is)
    (case z_max => k_is)
    (case z_min => k_is)
    (case z_range => k_is)
    (case z_repr => k_is)
    (case z_str => k_is)
    (case z_ValueError => k_is)
    (case z_LookupError => k_is)
    (case z_KeyError => k_is)
